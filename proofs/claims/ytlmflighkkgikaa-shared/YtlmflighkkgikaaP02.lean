import Derived.WalkKit
import Derived.Test.YtlmflighkkgikaaProg
import Derived.Deep.RegionLaw
import Derived.OrdersHeld
import Derived.Deep.AppendLies
import Derived.ArgAppend
import Derived.Maps.OwnSet
import Derived.Deep.QuietTactic
import Derived.BigQuiet
import Derived.Deep.Light
import Derived.Test.YtlmflighkkgikaaP01

namespace Go.Proofs.Ytlmflighkkgikaa

section
variable {P : Program} {ops : Array Oper} {Q : Exit → Act → World → Prop} {md : Region.Mode} {S : World → Prop} {need : Nat → Bool}
def waitsOn (md : Region.Mode) (o : Oper) (i : Nat) : Bool := o.after.any (fun e => Region.binds md e && e.on == i)
theorem wpOp_of {i : Nat} {o : Oper} {K : Act → World → Prop} {a : Act} {w : World} (hi : ops[i]? = some o) (hg : o.guard = none) (h : Oper.wp P o a w K Q) : wpOp P ops Q i K a w := by
 unfold wpOp
 have hw : Region.wanted o (yielded ops a.tmps) = true := by simp [Region.wanted, hg]
 simp only [hi, hw, if_true]
 exact .inl h
theorem wp_of_run {o : Oper} {K : Act → World → Prop} {a : Act} {w w' : World} {v : Value} (hr : (execOp a.eval o).run P w = .ok (.value v) w') (h : K (a.put o.dst v) w') : Oper.wp P o a w K Q := by
 unfold Oper.wp; rw [hr]; exact h
theorem wp_of_call {o : Oper} {K : Act → World → Prop} {a : Act} {w : World} (f : FuncId) {fn : Func} (hfn : P.funcs[f]? = some fn) (hfn1 : (fn.name == "runtime.NumGoroutine") = false) (hfn2 : fn.body.isNone = false) (xs : Array Operand) (ts : Array TypeId)
   (hop : o.op = Op.call { callee := Callee.value (Operand.func f), args := xs, argTypes := ts }) (vs : Array Value) (hvs : xs.map a.eval = vs) {R : Value → World → Prop} (h : Calls P f vs w fun e w' => ∃ v, e = .returned v ∧ R v w') (hK : ∀ v w', R v w' → K (a.put o.dst v) w') : Oper.wp P o a w K Q := by
 unfold Oper.wp
 subst hvs
 have hrun : (execOp a.eval o).run P w = .ok (.enter f (xs.map a.eval)) w := by
   have e1 : execOp a.eval o = callFunc f (#[] ++ xs.map a.eval ++ #[]) := by
     unfold execOp
     rw [hop]
     rfl
   rw [e1]
   have n1 : ¬ fn.name = "runtime.NumGoroutine" := by simpa using hfn1
   have n2 : ¬ fn.body = none := fun h => by rw [h] at hfn2; simp at hfn2
   simp [callFunc, program, Sem.run, Result.andThen, hfn, n1, n2, go_sem]
 rw [hrun, Oper.upon_enter]
 refine h.mono ?_
 rintro e w' ⟨v, rfl, hR⟩
 exact hK v w' hR
end
def maxTo (f : Nat → Int) : Nat → Int
 | 0 => f 0
 | n + 1 => if maxTo f n < f (n + 1) then f (n + 1) else maxTo f n
theorem maxTo_ge (f : Nat → Int) (n : Nat) : ∀ j, j ≤ n → f j ≤ maxTo f n := by
 induction n with
 | zero => intro j hj; have : j = 0 := by omega
           subst this; exact Int.le_refl _
 | succ n ih =>
   intro j hj
   unfold maxTo
   by_cases e : j = n + 1
   · subst e; split <;> omega
   · have := ih j (by omega); split <;> omega
theorem maxTo_is (f : Nat → Int) (n : Nat) : ∃ j, j ≤ n ∧ maxTo f n = f j := by
 induction n with
 | zero => exact ⟨0, Nat.le_refl _, rfl⟩
 | succ n ih =>
   obtain ⟨j, hj, e⟩ := ih
   unfold maxTo
   split
   · exact ⟨n + 1, Nat.le_refl _, rfl⟩
   · exact ⟨j, by omega, e⟩
def topTo (f : Nat → Int) : Nat → Int
 | 0 => 0
 | n + 1 => maxTo f n
theorem topTo_hit (f : Nat → Int) (n : Nat) (h : 0 < n) (e : topTo f n < f n) : topTo f (n + 1) = f n := by
 match n, h, e with
 | k + 1, _, e => have e' : maxTo f k < f (k + 1) := e
                  show maxTo f (k + 1) = _; rw [maxTo, if_pos e']
theorem topTo_miss (f : Nat → Int) (n : Nat) (h : 0 < n) (e : f n ≤ topTo f n) : topTo f (n + 1) = topTo f n := by
 match n, h, e with
 | k + 1, _, e => have e' : f (k + 1) ≤ maxTo f k := e
                  show maxTo f (k + 1) = maxTo f k; rw [maxTo, if_neg (by omega)]
def halved (k : Nat) : Int := 65536 / 2 ^ k
theorem halved_bd (k : Nat) : 0 ≤ halved k ∧ halved k ≤ 65536 := by
 unfold halved
 exact ⟨Int.ediv_nonneg (by omega) (Int.pow_nonneg (by omega)), Int.ediv_le_self _ (by omega)⟩
theorem halved_zero : halved 0 = 65536 := by simp [halved]
def shareOf (d : Int) : Int := halved (min d.toNat 17)
theorem shareOf_bd (d : Int) : 0 ≤ shareOf d ∧ shareOf d ≤ 65536 := halved_bd _
theorem shareOf_zero : shareOf 0 = 65536 := by simp [shareOf, halved_zero]
theorem tdiv_bd {s c b : Int} (hc : 0 ≤ c) (h : -b ≤ s ∧ s ≤ b) : -b ≤ s.tdiv c ∧ s.tdiv c ≤ b := by
 by_cases h0 : 0 ≤ s
 · rw [Int.tdiv_eq_ediv_of_nonneg h0]
   have := Int.ediv_le_self c h0
   have := Int.ediv_nonneg h0 hc
   omega
 · have e : s = -(-s) := by omega
   rw [e, Int.neg_tdiv, Int.tdiv_eq_ediv_of_nonneg (by omega)]
   have := Int.ediv_le_self c (show 0 ≤ -s by omega)
   have := Int.ediv_nonneg (show 0 ≤ -s by omega) hc
   omega
def scoreOf (lo n : Nat) (q : Nat → Int) (k : Nat → Int) : Int := (sumTo (fun i => q (lo + i) * k (lo + i)) n).tdiv 256
theorem scoreOf_bd (lo n : Nat) (q k : Nat → Int) (hn : n ≤ 4) (bq : ∀ j, -4095 ≤ q j ∧ q j ≤ 4095) (bk : ∀ j, -4095 ≤ k j ∧ k j ≤ 4095) : -67076100 ≤ scoreOf lo n q k ∧ scoreOf lo n q k ≤ 67076100 := by
 obtain ⟨h1, h2⟩ := sumTo_bd (f := fun i => q (lo + i) * k (lo + i)) (n := n) (b := 4095 * 4095) (fun i _ => mul_bd (bq _) (bk _))
 unfold scoreOf
 generalize sumTo (fun i => q (lo + i) * k (lo + i)) n = s at h1 h2
 exact tdiv_bd (by omega) ⟨by omega, by omega⟩
def shareAt (p : Nat) (sc : Nat → Int) (t : Nat) : Int := shareOf (maxTo sc p - sc t)
theorem shareAt_bd (p : Nat) (sc : Nat → Int) (t : Nat) : 0 ≤ shareAt p sc t ∧ shareAt p sc t ≤ 65536 := shareOf_bd _
theorem sumTo_ge_one {f : Nat → Int} {n : Nat} (h : ∀ j, 0 ≤ f j) (j : Nat) (hj : j < n) : f j ≤ sumTo f n := by
 induction n with
 | zero => omega
 | succ n ih =>
   simp only [sumTo]
   have hn := h n
   by_cases e : j = n
   · subst e; have := sumTo_nonneg (f := f) (n := j) (fun i _ => h i); omega
   · have := ih (by omega); omega
theorem shares_bd (p n : Nat) (sc : Nat → Int) : 0 ≤ sumTo (shareAt p sc) n ∧ sumTo (shareAt p sc) n ≤ n * 65536 :=
 ⟨sumTo_nonneg (fun j _ => (shareAt_bd p sc j).1), (sumTo_bd (b := 65536) (fun j _ => ⟨by have := (shareAt_bd p sc j).1; omega, (shareAt_bd p sc j).2⟩)).2⟩
theorem shares_pos (p : Nat) (sc : Nat → Int) : 65536 ≤ sumTo (shareAt p sc) (p + 1) := by
 obtain ⟨j, hj, e⟩ := maxTo_is sc p
 have h := sumTo_ge_one (f := shareAt p sc) (n := p + 1) (fun i => (shareAt_bd p sc i).1) j (by omega)
 have h2 : shareAt p sc j = 65536 := by unfold shareAt; rw [e, Int.sub_self, shareOf_zero]
 omega
def headAt (p : Nat) (sc : Nat → Int) (v : Nat → Int) : Int := (sumTo (fun t => shareAt p sc t * v t) (p + 1)).tdiv (sumTo (shareAt p sc) (p + 1))
theorem heads_bd (p n : Nat) (sc v : Nat → Int) (bv : ∀ j, -4095 ≤ v j ∧ v j ≤ 4095) : -(n * 268369920) ≤ sumTo (fun t => shareAt p sc t * v t) n ∧ sumTo (fun t => shareAt p sc t * v t) n ≤ n * 268369920 := by
 have := sumTo_bd (f := fun t => shareAt p sc t * v t) (n := n) (b := 65536 * 4095) (fun j _ => mul_bd ⟨by have := (shareAt_bd p sc j).1; omega, (shareAt_bd p sc j).2⟩ (bv j))
 omega
end Go.Proofs.Ytlmflighkkgikaa
namespace Go.Proofs.Ytlmflighkkgikaa
open Go.RowKit
theorem owns_base {w : World} {base base' : Nat} {e : TypeId} {size : Nat} {v : Value} {n : Nat} {xs : List Value} (h : w.ownsRow base e size v n xs) (hb : base' ≤ base) : w.ownsRow base' e size v n xs := by
 obtain ⟨h1, h2 | ⟨g, cap, cur, e', hg, rest⟩⟩ := h
 · exact ⟨h1, .inl h2⟩
 · exact ⟨h1, .inr ⟨g, cap, cur, e', Nat.le_trans hb hg, rest⟩⟩
def heldElem (v : Value) : Option (DataW Value × List MemPlace) := some (.held v, [])
def MapV (P : Program) (k : TypeId) (w : World) (b n : Nat) (M : Int → Option Value) : Prop :=
 ∃ D : DataW Value, w.ownsMap P k heldElem b n D ∧ Maps.size D = n ∧ ∀ x : Int, (Lit.int .i64 x).wf = true → Maps.has D (.int .i64 x) = (M x).isSome ∧ ∀ v, M x = some v → ∀ z, D.atKey (.int .i64 x) z = .held v
section
variable {P : Program} {k e t : TypeId} {w w' : World} {b n : Nat} {M : Int → Option Value}
theorem MapV.obj (h : MapV P k w b n M) : ∃ es clock, w.heap[b]? = some (.map es clock) := by
 obtain ⟨D, ⟨es, clock, hb, _⟩, _⟩ := h
 exact ⟨es, clock, hb⟩
theorem MapV.lt (h : MapV P k w b n M) : b < w.heap.size := by
 obtain ⟨es, clock, hb⟩ := h.obj
 exact lt_blk hb
theorem MapV.keep (h : MapV P k w b n M) (hk : w'.heap[b]? = w.heap[b]?) : MapV P k w' b n M := by
 obtain ⟨D, ⟨es, clock, hb, r⟩, r'⟩ := h
 exact ⟨D, ⟨es, clock, hk.trans hb, r⟩, r'⟩
theorem MapV.made (P : Program) (k : TypeId) (w : World) : MapV P k (w.alloc (.map #[] 0)) w.heap.size 0 (fun _ => none) :=
 ⟨.map [], World.ownsMap_made w P k heldElem, rfl, fun x _ => ⟨rfl, fun v h => by cases h⟩⟩
theorem MapV.look (h : MapV P k w b n M) (hk : P.underlying k = some (.int .i64)) (ht : P.underlying t = some (.map k e)) {z : Value} (hz : (zeroValue e).run P w = .ok z w) (x : Int) (hx : (Lit.int .i64 x).wf = true) :
   (Instr.lookup t (.map (some b)) (.int .i64 x) true).run P w = .ok (.tuple #[(M x).getD z, .bool (M x).isSome]) w := by
 obtain ⟨D, h1, _, h2⟩ := h
 obtain ⟨v, ps, hrun, hv⟩ := h1.look_ok (Maps.int_keyed hk) ht hz (zd := .held z) (zp := []) rfl (Maps.keyOf_int_mk hk hx)
 obtain ⟨g1, g2⟩ := h2 x hx
 rw [hrun, g1]
 unfold heldElem at hv
 cases hm : M x with
 | none =>
   rw [hm] at g1
   rw [Maps.atKey_of_not_has g1] at hv
   simp at hv
   rw [hv.1]; rfl
 | some u =>
   rw [g2 u hm] at hv
   simp at hv
   rw [hv.1]; rfl
theorem MapV.look1 (h : MapV P k w b n M) (hk : P.underlying k = some (.int .i64)) (ht : P.underlying t = some (.map k e)) {z : Value} (hz : (zeroValue e).run P w = .ok z w) (x : Int) (hx : (Lit.int .i64 x).wf = true) :
   (Instr.lookup t (.map (some b)) (.int .i64 x) false).run P w = .ok ((M x).getD z) w := by
 obtain ⟨D, ⟨es, clock, hb, F, _, rfl⟩, _, h2⟩ := h
 obtain ⟨g1, g2⟩ := h2 x hx
 rcases Maps.fit_look false (Maps.int_keyed hk) ht hz hb F (Maps.keyOf_int_mk hk hx) with ⟨hrun, _, hat⟩ | ⟨e0, y, _, _, hrun, hRv, hat, _⟩
 · rw [Maps.has_false_of_atKey hat] at g1
   cases hm : M x with
   | none => simpa using hrun
   | some u => rw [hm] at g1; cases g1
 · rw [Maps.has_true_of_atKey hat] at g1
   cases hm : M x with
   | none => rw [hm] at g1; cases g1
   | some u =>
     have q := g2 u hm (.held z)
     rw [hat (.held z)] at q
     unfold heldElem at hRv
     injection hRv with hRv
     rw [← hRv] at q
     injection q with q
     rw [hrun, q]; rfl
theorem MapV.len (h : MapV P k w b n M) (ht : P.underlying t = some (.map k e)) (ty : TypeId) : (Builtin.len_ #[t] ty #[.map (some b)]).run P w = .ok (.int .i64 n) w := by
 obtain ⟨D, h1, h2, _⟩ := h
 rw [h1.len ht ty, h2]
theorem MapV.tight {D : DataW Value} {m : Nat} (h : w.ownsMap P k heldElem b m D) (hs : Maps.size D = n) : w.ownsMap P k heldElem b n D := by
 obtain ⟨es, clock, hb, F, hle, rfl⟩ := h
 refine ⟨es, clock, hb, F, ?_, rfl⟩
 have e1 := length_read (P := P) (k := k) (R0 := heldElem) es
 rw [← hs, ← e1]
 exact Nat.le_refl _
theorem MapV.store (h : MapV P k w b n M) (hk : P.underlying k = some (.int .i64)) (ht : P.underlying t = some (.map k e)) (hn : n < maxLen) (x : Int) (hx : (Lit.int .i64 x).wf = true) (hM : M x = none) (v : Value) :
   ∃ w', (Instr.mapUpdate t (.map (some b)) (.int .i64 x) v).run P w = .ok () w' ∧ MapV P k w' b (n + 1) (fun y => if y = x then some v else M y) ∧ w.grownBy w' (some b) ∧ w'.heap.size = w.heap.size := by
 obtain ⟨D, h1, h2, h3⟩ := h
 obtain ⟨w', hrun, h4, h5⟩ := h1.store (Maps.int_keyed hk) ht hn (Maps.keyOf_int_mk hk hx) (d := .held v) (ps := []) (val := v) rfl
 have g1 := (h3 x hx).1
 rw [hM] at g1
 refine ⟨w', hrun, ⟨D.put (.int .i64 x) (.held v), h4, ?_, fun y hy => ?_⟩, h5.grown, ?_⟩
 · have := Maps.size_put (k := .int .i64 x) (h1.tidy (Maps.int_keyed hk)) (.held v)
   rw [g1] at this
   simp at this
   omega
 · by_cases e1 : y = x
   · subst e1
     simp only [if_true]
     exact ⟨Maps.has_put_same (k := .int .i64 y) h1.isMap trivial _, fun u hu z => by cases hu; exact Maps.atKey_put_same (k := .int .i64 y) h1.isMap trivial _ _⟩
   · have hne : Lit.int .i64 y ≠ .int .i64 x := fun h => e1 (by injection h)
     simp only [if_neg e1]
     rw [Maps.has_put_other hne]
     exact ⟨(h3 y hy).1, fun u hu z => by rw [Maps.atKey_put_other hne]; exact (h3 y hy).2 u hu z⟩
 · obtain ⟨es, clock, es', clock', hb, rfl⟩ := h5
   simp [ChangeMaps.setBlock]
theorem MapV.over (h : MapV P k w b n M) (hk : P.underlying k = some (.int .i64)) (ht : P.underlying t = some (.map k e)) (hn : n < maxLen) (x : Int) (hx : (Lit.int .i64 x).wf = true) (hM : M x ≠ none) (v : Value) :
   ∃ w', (Instr.mapUpdate t (.map (some b)) (.int .i64 x) v).run P w = .ok () w' ∧ MapV P k w' b n (fun y => if y = x then some v else M y) ∧ w.grownBy w' (some b) ∧ w'.heap.size = w.heap.size := by
 obtain ⟨D, h1, h2, h3⟩ := h
 obtain ⟨w', hrun, h4, h5⟩ := h1.store (Maps.int_keyed hk) ht hn (Maps.keyOf_int_mk hk hx) (d := .held v) (ps := []) (val := v) rfl
 have g1 := (h3 x hx).1
 have g2 : Maps.has D (.int .i64 x) = true := by rw [g1]; cases hm : M x with
   | none => exact absurd hm hM
   | some _ => rfl
 have hsz : Maps.size (D.put (.int .i64 x) (.held v)) = n := by
   have := Maps.size_put (k := .int .i64 x) (h1.tidy (Maps.int_keyed hk)) (.held v)
   rw [g2] at this
   simp at this
   omega
 refine ⟨w', hrun, ⟨D.put (.int .i64 x) (.held v), MapV.tight h4 hsz, hsz, fun y hy => ?_⟩, h5.grown, ?_⟩
 · by_cases e1 : y = x
   · subst e1
     simp only [if_true]
     exact ⟨Maps.has_put_same (k := .int .i64 y) h1.isMap trivial _, fun u hu z => by cases hu; exact Maps.atKey_put_same (k := .int .i64 y) h1.isMap trivial _ _⟩
   · have hne : Lit.int .i64 y ≠ .int .i64 x := fun h => e1 (by injection h)
     simp only [if_neg e1]
     rw [Maps.has_put_other hne]
     exact ⟨(h3 y hy).1, fun u hu z => by rw [Maps.atKey_put_other hne]; exact (h3 y hy).2 u hu z⟩
 · obtain ⟨es, clock, es', clock', hb, rfl⟩ := h5
   simp [ChangeMaps.setBlock]
theorem MapV.drop (h : MapV P k w b (n + 1) M) (hk : P.underlying k = some (.int .i64)) (ht : P.underlying t = some (.map k e)) (ty : TypeId) (x : Int) (hx : (Lit.int .i64 x).wf = true) (hM : M x ≠ none) :
   ∃ w', (Builtin.delete_ #[t, k] ty #[.map (some b), .int .i64 x]).run P w = .ok (.tuple #[]) w' ∧ MapV P k w' b n (fun y => if y = x then none else M y) ∧ w.grownBy w' (some b) ∧ w'.heap.size = w.heap.size := by
 obtain ⟨D, h1, h2, h3⟩ := h
 obtain ⟨w', hrun, h4, h5⟩ := h1.drop (Maps.int_keyed hk) ht (Maps.keyOf_int_mk hk hx) ty
 have g1 := (h3 x hx).1
 have g2 : Maps.has D (.int .i64 x) = true := by rw [g1]; cases hm : M x with
   | none => exact absurd hm hM
   | some _ => rfl
 have hsz : Maps.size (D.del (.int .i64 x)) = n := by
   have := Maps.size_del (k := .int .i64 x) (h1.tidy (Maps.int_keyed hk))
   rw [g2] at this
   simp at this
   omega
 refine ⟨w', hrun, ⟨D.del (.int .i64 x), MapV.tight h4 hsz, hsz, fun y hy => ?_⟩, h5.grown, ?_⟩
 · by_cases e1 : y = x
   · subst e1
     simp only [if_true]
     exact ⟨Maps.has_del_same, fun u hu => by cases hu⟩
   · have hne : Lit.int .i64 y ≠ .int .i64 x := fun h => e1 (by injection h)
     simp only [if_neg e1]
     rw [Maps.has_del_other hne]
     exact ⟨(h3 y hy).1, fun u hu z => by rw [Maps.atKey_del_other hne]; exact (h3 y hy).2 u hu z⟩
 · obtain ⟨es, clock, es', clock', hb, rfl⟩ := h5
   simp [ChangeMaps.setBlock]
end
end Go.Proofs.Ytlmflighkkgikaa
namespace Go.Proofs.Ytlmflighkkgikaa
section
variable {P : Program} {ops : Array Oper} {Q : Exit → Act → World → Prop} {md : Region.Mode}
def valOf (a : Act) (o : Oper) : Value := match o.dst with | some d => a.tmps.getD d undef | none => undef
structure FrameI (ops : Array Oper) (a0 a : Act) : Prop where
 size : a.tmps.size = a0.tmps.size
 defers : a.defers = a0.defers
 same : ∀ d, (∀ (i : Nat) (o : Oper), ops[i]? = some o → o.dst ≠ some d) → a.tmps[d]? = a0.tmps[d]?
def regionOk (ops : Array Oper) (n : Nat) : Bool :=
 (List.range ops.size).all fun i => match ops[i]? with
   | none => true
   | some o => o.after.all (fun e => decide (e.on < i)) && (match o.dst with | none => true | some d => decide (d < n) && (List.range ops.size).all fun j => (j == i) || (match ops[j]? with | none => true | some oj => !(oj.dst == some d)))
theorem regionOk_spec {n : Nat} (h : regionOk ops n = true) {i : Nat} {o : Oper} (ho : ops[i]? = some o) :
   (∀ e ∈ o.after, e.on < i) ∧ ∀ d, o.dst = some d → d < n ∧ ∀ (j : Nat) (oj : Oper), ops[j]? = some oj → j ≠ i → oj.dst ≠ some d := by
 unfold regionOk at h
 rw [List.all_eq_true] at h
 have h1 := h i (List.mem_range.2 (Array.getElem?_eq_some_iff.1 ho).1)
 rw [ho] at h1
 simp only [Bool.and_eq_true] at h1
 refine ⟨fun e he => ?_, fun d hd => ?_⟩
 · have := Array.all_eq_true'.1 h1.1 e he
   simpa using this
 · have h2 := h1.2
   rw [hd] at h2
   simp only [Bool.and_eq_true, decide_eq_true_eq, List.all_eq_true] at h2
   refine ⟨h2.1, fun j oj hj hne hdj => ?_⟩
   have h3 := h2.2 j (List.mem_range.2 (Array.getElem?_eq_some_iff.1 hj).1)
   rw [hj] at h3
   simp [hne, hdj] at h3
theorem put_size (a : Act) (d : Option Tmp) (v : Value) : (a.put d v).tmps.size = a.tmps.size ∧ (a.put d v).defers = a.defers := by
 cases d <;> simp [Act.put]
theorem put_get (a : Act) (d e : Tmp) (v : Value) : (a.put (some d) v).tmps[e]? = if d = e ∧ e < a.tmps.size then some v else a.tmps[e]? := by
 simp only [Act.put, Array.getElem?_setIfInBounds]
 by_cases h : d = e
 · subst h
   by_cases h2 : d < a.tmps.size
   · simp [h2]
   · simp [h2]
 · simp [h]
variable {Spec : Nat → Value → World → Prop} {I : Bool → World → Prop} {a0 : Act} {z : Nat}
def noDst (ops : Array Oper) (d : Nat) : Bool := (List.range ops.size).all fun i => match ops[i]? with | none => true | some o => !(o.dst == some d)
theorem frame_eval {a : Act} (hF : FrameI ops a0 a) {d : Nat} (hn : noDst ops d = true) : a.eval (.tmp d) = a0.eval (.tmp d) := by
 have h := hF.same d (fun i o ho hd => by
   unfold noDst at hn
   rw [List.all_eq_true] at hn
   have := hn i (List.mem_range.2 (Array.getElem?_eq_some_iff.1 ho).1)
   rw [ho] at this
   simp [hd] at this)
 simp only [Act.eval]
 rw [Array.getD_eq_getD_getElem?, Array.getD_eq_getD_getElem?, h]
theorem dep_eval {o : Oper} {a : Act} {w : World} (hdep : ∀ e ∈ o.after, Region.binds md e = true → ∀ oe, ops[e.on]? = some oe → Spec e.on (valOf a oe) w) {j dj : Nat} (hw : waitsOn md o j = true) (hd : (ops[j]?).map (·.dst) = some (some dj)) : Spec j (a.eval (.tmp dj)) w := by
 unfold waitsOn at hw
 rw [Array.any_eq_true] at hw
 obtain ⟨k, hk, h1⟩ := hw
 simp only [Bool.and_eq_true, beq_iff_eq] at h1
 cases ho : ops[j]? with
 | none => rw [ho] at hd; cases hd
 | some oj =>
   rw [ho] at hd
   simp at hd
   have := hdep o.after[k] (by simp) h1.1 oj (by rw [h1.2]; exact ho)
   rw [h1.2] at this
   unfold valOf at this
   rw [hd] at this
   exact this
theorem dep_at {o : Oper} {a : Act} {w : World} {i : Nat} (ho : ops[i]? = some o) (hdep : ∀ e ∈ o.after, Region.binds md e = true → ∀ oe, ops[e.on]? = some oe → Spec e.on (valOf a oe) w) {j dj : Nat}
   (hw : (ops[i]?).map (fun o => waitsOn md o j) = some true) (hd : (ops[j]?).map (·.dst) = some (some dj)) : Spec j (a.eval (.tmp dj)) w := by
 rw [ho] at hw
 exact dep_eval hdep (by simpa using hw) hd
theorem dst_ne {o : Oper} {i d : Nat} (ho : ops[i]? = some o) (hd : (ops[i]?).map (·.dst) = some (some d)) {A : Prop} (h : o.dst = none) : A := by
 rw [ho] at hd
 simp [h] at hd
theorem spec_run {i : Nat} {d : Option Tmp} {op : Op} {ty : TypeId} {v : Value} {K : Act → World → Prop} {o : Oper} {a : Act} {w w' : World} (ho : ops[i]? = some o) (hi : (ops[i]?).map (fun o => (o.dst, o.op, o.type, o.guard)) = some (d, op, ty, none))
   (hr : ∀ pos after, (execOp a.eval ⟨d, op, ty, pos, after, none⟩).run P w = .ok (.value v) w') (h : K (a.put o.dst v) w') : wpOp P ops Q i K a w := by
 rw [ho] at hi
 obtain ⟨o1, o2, o3, o4, o5, o6⟩ := o
 simp at hi
 obtain ⟨rfl, rfl, rfl, rfl⟩ := hi
 exact wpOp_of ho rfl (wp_of_run (hr _ _) h)
end
end Go.Proofs.Ytlmflighkkgikaa
namespace Go.Proofs.Ytlmflighkkgikaa
open Go.RowKit
theorem Try.info_int : (Try.prog.info? 3).map (fun i => (i.zero, i.size, i.bytes)) = some (some (.int .i64 0), 1, 8) := by kernel_rfl
def mulAt (W : Nat → Int) (start m : Nat) (v : Nat → Int) (i : Nat) : Int := cutI ((sumTo (fun j => W (start + i * m + j) * v j) m).tdiv 8)
end Go.Proofs.Ytlmflighkkgikaa
