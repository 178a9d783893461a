import Derived.Deep.AppendLies
import Derived.ArgAppend
import Derived.Test.YtaidjhlijadmiaaP02
import Derived.Test.YtaidjhlijadmiaaP17

/-
  append onto a slice of one's own: the slice itself reads as before; in its block nothing has turned but what lies behind it.
-/
namespace Go.Proofs.Ytaidjhlijadmiaa
open Go.RowKit

theorem owns_base {w : World} {base base' : Nat} {e : TypeId} {size : Nat} {v : Value} {n : Nat} {xs : List Value} (h : w.ownsRow base e size v n xs) (hb : base' ≤ base) : w.ownsRow base' e size v n xs := by
  obtain ⟨h1, h2 | ⟨g, cap, cur, e', hg, rest⟩⟩ := h
  · exact ⟨h1, .inl h2⟩
  · exact ⟨h1, .inr ⟨g, cap, cur, e', Nat.le_trans hb hg, rest⟩⟩

theorem append_stays {P : Program} (w : World) (t ty : TypeId) (base : Nat) (e : TypeId) (i : TypeInfo) (z : Value) (bytes : Nat) (ht : P.underlying t = some (.slice e)) (hi : P.info? e = some i) (hz : i.zero = some z)
    (hsize : i.size = 1) (hby : i.bytes = bytes) (hzs : z.cells.size = 1) (v : Value) (n : Nat) (xs : List Value) (hown : w.ownsRow base e 1 v n xs)
    (ad : Addr) (m c : Nat) (news : List Value) (hl : news.length = m) (hnews : ∀ j u, news[j]? = some u → w.cell? (ad.add j) = some u) (h1 : ∀ u ∈ news, u.oneCell' = true)
    (hm : 0 < m) (h63 : n + m ≤ maxLen) (hbytes : (n + m) * bytes ≤ 140737488355328) (hbase : base ≤ w.heap.size) :
    ∃ g cap w', (Builtin.append_ #[t, t] ty #[v, .slice (some ad) m c]).run P w = .ok (.slice (some ⟨g, 0, none⟩) (n + m) cap) w' ∧
      w'.ownsRow base e 1 (.slice (some ⟨g, 0, none⟩) (n + m) cap) (n + m) (xs ++ news) ∧ w.grownBy w' v.ownBlock ∧ (v.ownBlock = some g ∨ w.heap.size ≤ g) ∧ w'.ownsRow base e 1 v n xs ∧
      (∀ lb cur, v.ownBlock = some lb → w.heap[lb]? = some (.cells cur e (0, 0)) → ∃ cur', w'.heap[lb]? = some (.cells cur' e (0, 0)) ∧ cur'.size = cur.size ∧ ∀ j : Nat, cur'[j]? = cur[j]? ∨ ∃ u ∈ news, cur'[j]? = some u) := by
  have hl' : news.length = m * 1 := by omega
  rcases hown.2 with ⟨rfl, rfl⟩ | ⟨g, cap, cur, rfl, hbg, hg, hnc, hcm, hcs, htake⟩
  · obtain ⟨g, cap, w', hr, h2, h3, h4, _⟩ := run_append_lies (P := P) w t ty base e i z 1 bytes ht hi hz hsize hby hzs (by omega) _ 0 xs hown ad m c news hl' hnews h1 hm h63 hbytes hbase _ rfl
    refine ⟨g, cap, w', hr, h2, h3, ?_, ⟨hown.1, .inl ⟨rfl, rfl⟩⟩, fun lb cur h => by simp [Value.ownBlock] at h⟩
    rcases h4 with h4 | h4
    · simp [Value.ownBlock] at h4
    · exact .inr (by omega)
  · by_cases hroom : n + m ≤ cap
    · have hfit : n * i.size + news.length ≤ cur.size := by rw [hsize]; omega
      have hr := run_append_room (P := P) w t ty e i ht hi g n cap cur hg ad m c news (by rw [hsize]; omega) hnews h1 hroom hfit
      rw [hsize, Nat.mul_one] at hr
      have hlen : (cur.toList.take n ++ news ++ cur.toList.drop (n + news.length)).length = cur.size := by simp; omega
      have hblk := setRow_heap w g cur (cur.toList.take n ++ news ++ cur.toList.drop (n + news.length)).toArray e _ hg
      have htk : cur.toList.take n = xs := by simpa using htake
      refine ⟨g, cap, _, hr, ⟨?_, .inr ⟨g, cap, _, rfl, hbg, hblk, hroom, hcm, by simp; omega, ?_⟩⟩, ⟨rfl, rfl, rfl, by simp, fun k _ hk => setRow_other w g k _ (fun e => hk (by simp [Value.ownBlock, e]))⟩, .inl rfl, ⟨hown.1, .inr ⟨g, cap, _, rfl, hbg, hblk, hnc, hcm, by simp; omega, ?_⟩⟩, fun lb cur' hlb hcur => ?_⟩
      · rw [List.length_append, hown.1, hl]; omega
      · have e1 : (n + m) * 1 = (cur.toList.take n ++ news).length := by rw [List.length_append, htk, hown.1, hl]; omega
        rw [e1]
        simp only []
        rw [List.take_left, htk]
      · have e1 : n * 1 = (cur.toList.take n).length := by rw [htk, hown.1]
        simp only [List.append_assoc]
        rw [e1, List.take_left, htk]
      · simp only [Value.ownBlock] at hlb
        injection hlb with hlb
        subst hlb
        rw [hg] at hcur
        injection hcur with hcur
        injection hcur with hcur _ _
        subst hcur
        refine ⟨_, hblk, by simp; omega, fun j => ?_⟩
        simp only [List.getElem?_toArray, List.append_assoc]
        by_cases hj : j < n
        · left
          rw [List.getElem?_append_left (by simp; omega), List.getElem?_take_of_lt hj]
          simp
        · by_cases hj2 : j < n + m
          · right
            rw [List.getElem?_append_right (by simp; omega), List.getElem?_append_left (by simp; omega)]
            have hlt : j - (cur.toList.take n).length < news.length := by simp; omega
            exact ⟨news[j - (cur.toList.take n).length], by simp, by rw [List.getElem?_eq_getElem hlt]⟩
          · left
            rw [List.getElem?_append_right (by simp; omega), List.getElem?_append_right (by simp; omega), List.getElem?_drop]
            simp
            congr 1
            omega
    · have holds : ∀ j u, xs[j]? = some u → w.cell? ((⟨g, 0, none⟩ : Addr).add j) = some u := hown.cells (g := g) rfl
      obtain ⟨v', w', hr, h2, h3⟩ := run_append_arg_grows (P := P) w t ty e i z 1 bytes ht hi hz hsize hby hzs (by omega) ⟨g, 0, none⟩ n cap xs hown.1 holds ad m c news hl' hnews (by omega) h63 hbytes
      obtain ⟨g', cap', rfl, hb', _⟩ := h2.form (by omega)
      have hk : ∀ k, k < w.heap.size → w'.heap[k]? = w.heap[k]? := fun k hk => h3.block k hk (by simp)
      refine ⟨g', cap', w', hr, owns_base h2 hbase, ⟨h3.os, h3.tape, h3.output, h3.size, fun k hk' _ => hk k hk'⟩, .inr hb', ⟨hown.1, .inr ⟨g, cap, cur, rfl, hbg, by rw [hk g (lt_blk hg)]; exact hg, hnc, hcm, hcs, htake⟩⟩, fun lb cur' hlb hcur => ?_⟩
      exact ⟨cur', by rw [hk lb (lt_blk hcur)]; exact hcur, rfl, fun j => .inl rfl⟩

end Go.Proofs.Ytaidjhlijadmiaa

/-
  A region that draws its order, by what each of its operations leaves, where no operation waits for all others.
-/
namespace Go.Proofs.Ytaidjhlijadmiaa

section
variable {P : Program} {ops : Array Oper} {Q : Exit → Act → World → Prop} {md : Region.Mode} {Spec : Nat → Value → World → Prop} {J : World → Prop} {a0 : Act}

theorem wpAny_specs0 (hok : regionOk ops a0.tmps.size = true)
    (hstep : ∀ (i : Nat) (o : Oper), ops[i]? = some o → ∀ (a : Act) (w : World), FrameI ops a0 a → J w → (∀ e ∈ o.after, Region.binds md e = true → ∀ oe, ops[e.on]? = some oe → Spec e.on (valOf a oe) w) →
      ∀ K : Act → World → Prop, (∀ v w', J w' → (o.dst = none → v = undef) → Spec i v w' → (∀ j u, j ≠ i → Spec j u w → Spec j u w') → K (a.put o.dst v) w') → wpOp P ops Q i K a w)
    (hend : ∀ (a : Act) (w : World), FrameI ops a0 a → J w → (∀ (i : Nat) (o : Oper), ops[i]? = some o → Spec i (valOf a o) w) → Q .normal a w) :
    ∀ (fuel : Nat) (listed : Array Bool) (a : Act) (w : World), listed.size = ops.size → listed.toList.count false ≤ fuel → FrameI ops a0 a → J w →
      (∀ (i : Nat) (o : Oper), ops[i]? = some o → listed[i]? = some true → Spec i (valOf a o) w) → wpAny P md ops Q fuel listed a w := by
  have allOf : ∀ (listed : Array Bool), listed.size = ops.size → Region.ready md ops listed = [] → ∀ i, i < ops.size → listed[i]? = some true := by
    intro listed hsz hr i
    induction i using Nat.strongRecOn with
    | _ i ih =>
      intro hi
      have hli : listed[i]? = some listed[i] := Array.getElem?_eq_getElem (by omega)
      cases hb : listed[i] with
      | true => rw [hli, hb]
      | false =>
        exfalso
        have ho : ops[i]? = some ops[i] := Array.getElem?_eq_getElem hi
        have hm : i ∈ Region.ready md ops listed := by
          refine mem_ready.2 ⟨by simp [hli, hb], ops[i], ho, fun e he _ => ?_⟩
          have hlt := (regionOk_spec hok ho).1 e he
          have := ih e.on hlt (by omega)
          simp [this]
        rw [hr] at hm
        cases hm
  intro fuel
  induction fuel with
  | zero =>
    intro listed a w hsz hcnt hF hI hS
    have hall : ∀ i, i < ops.size → listed[i]? = some true := by
      intro i hi
      have hli : listed[i]? = some listed[i] := Array.getElem?_eq_getElem (by omega)
      cases hb : listed[i] with
      | true => rw [hli, hb]
      | false =>
        exfalso
        have : false ∈ listed.toList := by rw [← hb]; simp
        have := List.count_pos_iff.2 this
        omega
    refine ⟨?_, hend a w hF hI (fun i o ho => hS i o ho (hall i (Array.getElem?_eq_some_iff.1 ho).1))⟩
    cases hr : Region.ready md ops listed with
    | nil => rfl
    | cons j r =>
      have hj : j ∈ Region.ready md ops listed := by rw [hr]; simp
      obtain ⟨hun, o, ho, _⟩ := mem_ready.1 hj
      have := hall j (Array.getElem?_eq_some_iff.1 ho).1
      simp [this] at hun
  | succ fuel ih =>
    intro listed a w hsz hcnt hF hI hS
    refine ⟨fun hr => hend a w hF hI (fun i o ho => hS i o ho (allOf listed hsz hr i (Array.getElem?_eq_some_iff.1 ho).1)), fun i hi => ?_⟩
    obtain ⟨hun, o, ho, hall⟩ := mem_ready.1 hi
    have hil := (Array.getElem?_eq_some_iff.1 ho).1
    have hli : listed[i]? = some false := by
      have : listed[i]? = some listed[i] := Array.getElem?_eq_getElem (by omega)
      cases hb : listed[i] with
      | true => rw [Array.getD_eq_getD_getElem?, this, hb] at hun; simp at hun
      | false => rw [this, hb]
    refine hstep i o ho a w hF hI (fun e he hb oe hoe => hS e.on oe hoe ?_) _ ?_
    · have h1 := hall e he hb
      have hlt := (regionOk_spec hok ho).1 e he
      have h2 : listed[e.on]? = some listed[e.on] := Array.getElem?_eq_getElem (by omega)
      rw [Array.getD_eq_getD_getElem?, h2] at h1
      rw [h2]
      simpa using h1
    · intro v w' hI' hv hSi hkeep
      refine ih _ _ w' (by simpa using hsz) ?_ ?_ hI' ?_
      · rw [Array.toList_setIfInBounds, List.count_set]
        have h3 : listed.toList[i]? = some false := by simpa using hli
        have h4 : i < listed.toList.length := by simp; omega
        have h5 : listed.toList[i] = false := by
          rw [List.getElem?_eq_getElem h4] at h3; injection h3
        have h6 : 0 < listed.toList.count false := List.count_pos_iff.2 (by rw [← h5]; simp)
        · simp [h5]
          simp at hcnt h6
          omega
        · simp; omega
      · refine ⟨by rw [(put_size _ _ _).1]; exact hF.size, by rw [(put_size _ _ _).2]; exact hF.defers, fun d hd => ?_⟩
        have := hd i o ho
        cases hdo : o.dst with
        | none => simp [Act.put]; exact hF.same d hd
        | some d' =>
          rw [put_get, if_neg (fun h => this (by rw [hdo, h.1]))]
          exact hF.same d hd
      · intro j oj hoj hlj
        by_cases hji : j = i
        · subst hji
          rw [ho] at hoj
          injection hoj with hoj
          subst hoj
          cases hdo : o.dst with
          | none =>
            have e1 : valOf (a.put o.dst v) o = undef := by unfold valOf; rw [hdo]
            rw [hdo] at e1
            rw [e1, ← hv hdo]; exact hSi
          | some d' =>
            have hd' := ((regionOk_spec hok ho).2 d' hdo).1
            have e1 : valOf (a.put (some d') v) o = v := by
              unfold valOf
              rw [hdo]
              simp only []
              rw [Array.getD_eq_getD_getElem?, put_get, if_pos ⟨rfl, by rw [hF.size]; exact hd'⟩]
              rfl
            rw [e1]; exact hSi
        · have hlj' : listed[j]? = some true := by
            rw [Array.getElem?_setIfInBounds_ne (fun e => hji e.symm)] at hlj; exact hlj
          refine hkeep j _ hji ?_
          have e1 : valOf (a.put o.dst v) oj = valOf a oj := by
            unfold valOf
            cases hdj : oj.dst with
            | none => rfl
            | some dj =>
              simp only []
              rw [Array.getD_eq_getD_getElem?, Array.getD_eq_getD_getElem?]
              cases hdo : o.dst with
              | none => simp [Act.put]
              | some d' =>
                rw [put_get, if_neg (fun h => ((regionOk_spec hok hoj).2 dj hdj).2 i o ho (fun e => hji e.symm) (by rw [hdo, h.1]))]
          rw [e1]
          exact hS j oj hoj hlj'

/-- A step that calls a function. -/
theorem spec_call {i : Nat} {d : Option Tmp} {ty : TypeId} {K : Act → World → Prop} {o : Oper} {a : Act} {w : World} (f : FuncId) {fn : Func} (hfn : P.funcs[f]? = some fn) (hfn1 : (fn.name == "runtime.NumGoroutine") = false) (hfn2 : fn.body.isNone = false) (xs : Array Operand) (ts : Array TypeId)
    (ho : ops[i]? = some o) (hi : (ops[i]?).map (fun o => (o.dst, o.op, o.type, o.guard)) = some (d, Op.call { callee := Callee.value (Operand.func f), args := xs, argTypes := ts }, ty, none)) (vs : Array Value) (hvs : xs.map a.eval = vs) {R : Value → World → Prop}
    (h : Calls P f vs w fun e w' => ∃ v, e = .returned v ∧ R v w') (hK : ∀ v w', R v w' → K (a.put o.dst v) w') : wpOp P ops Q i K a w := by
  rw [ho] at hi
  simp at hi
  exact wpOp_of ho hi.2.2.2 (wp_of_call f hfn hfn1 hfn2 xs ts hi.2.1 vs hvs h hK)

/-- The region, whole. -/
theorem wp_region_specs0 {id : Nat} {w : World} (hm : P.follows .mixedOrders = true) (hok : regionOk ops a0.tmps.size = true)
    (hstep : ∀ (i : Nat) (o : Oper), ops[i]? = some o → ∀ (a : Act) (w : World), FrameI ops a0 a → J w → (∀ e ∈ o.after, Region.binds .any e = true → ∀ oe, ops[e.on]? = some oe → Spec e.on (valOf a oe) w) →
      ∀ K : Act → World → Prop, (∀ v w', J w' → (o.dst = none → v = undef) → Spec i v w' → (∀ j u, j ≠ i → Spec j u w → Spec j u w') → K (a.put o.dst v) w') → wpOp P ops Q i K a w)
    (hend : ∀ (a : Act) (w : World), FrameI ops a0 a → J w → (∀ (i : Nat) (o : Oper), ops[i]? = some o → Spec i (valOf a o) w) → Q .normal a w) (hI : J w.drew) :
    (Code.region id ops true).wp P Q a0 w := by
  exact wp_region_any hm (wpAny_specs0 hok hstep hend ops.size _ a0 _ (by simp) (by simp) ⟨rfl, rfl, fun _ _ => rfl⟩ hI (fun i o ho hl => by
    have := (Array.getElem?_eq_some_iff.1 ho).1
    simp [this] at hl))
end

end Go.Proofs.Ytaidjhlijadmiaa
