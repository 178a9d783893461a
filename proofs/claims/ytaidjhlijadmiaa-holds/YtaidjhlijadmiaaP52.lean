import Derived.Test.YtaidjhlijadmiaaRows
import Derived.ProofKit
import Derived.ChangeSlices
import Derived.Deep.Slices
import Derived.Deep.Strs
import Derived.SizedLaws
import Derived.Carry
import Derived.OpenShut
import Derived.Test.YtaidjhlijadmiaaP51

/-
  The statement: Holds, for every input.
-/
namespace Go.Proofs.Ytaidjhlijadmiaa
open Go.ChangeShapes Go.WideShapes Go.ChangeAt Go.RowKit Go.Deep

theorem own' : ownKnob Try.prog.godebug = none := by kernel_rfl
theorem laidOut' : laidOutB Try.prog = true := by kernel_rfl
theorem Try.cells3' : Try.prog.cellsOf 3 = 1 := by kernel_rfl
theorem Try.cells36' : Try.prog.cellsOf 36 = 1 := by kernel_rfl
theorem Try.cells38' : Try.prog.cellsOf 38 = 6 := by kernel_rfl
theorem Try.cells23' : Try.prog.cellsOf 23 = 7 := by kernel_rfl
theorem Try.bytes38' : Try.prog.bytesOf 38 = 64 := by kernel_rfl
theorem Try.bytes3' : Try.prog.bytesOf 3 = 8 := by kernel_rfl

theorem holds_any (r1 r2 : Raw) (hs1 : i64 r1.seed) (hs2 : i64 r2.seed) (a : Option Addr) (n cap : Nat) (op : Nat → OpD) (W0 : World) (hS : ScriptI W0 a n cap op) :
    Calls Try.prog 3 #[r1.agg, r2.agg, .slice a n cap] W0 fun e w' => e = .returned (.bool true) ∧ Below W0.heap.size W0 w' := by
  have hpl : ∀ W, Below W0.heap.size W0 W → Calls Try.prog 5 #[r1.agg, r2.agg, .slice a n cap, .int .i64 4] W fun e w' => e = .returned (.bool true) ∧ Below W0.heap.size W0 w' := fun W hb => by
    have hS' : ScriptI W a n cap op := ⟨hS.le, hS.cap, hS.many, fun i hi => by
      obtain ⟨b, off, e, hlt, h0, h1, h2, h3, h4, h5⟩ := hS.at' i hi
      exact ⟨b, off, e, Nat.lt_of_lt_of_le hlt hb.size, (hb.cell (p := ⟨b, _, none⟩) hlt).trans h0, (hb.cell (p := ⟨b, _, none⟩) hlt).trans h1, (hb.cell (p := ⟨b, _, none⟩) hlt).trans h2, (hb.cell (p := ⟨b, _, none⟩) hlt).trans h3, (hb.cell (p := ⟨b, _, none⟩) hlt).trans h4, (hb.cell (p := ⟨b, _, none⟩) hlt).trans h5⟩, fun i hi => by
      obtain ⟨q1, q2⟩ := hS.arg i hi
      refine ⟨?_, q2⟩
      rcases q1.keep (fun k hk => hb.block k hk) with q | ⟨a', cap', e, u1, u2, u3, u4⟩
      · exact .inl q
      · exact .inr ⟨a', cap', e, u1, u2, u3, fun j hj => ⟨(u4 j hj).1, Nat.lt_of_lt_of_le (u4 j hj).2.1 hb.size, (u4 j hj).2.2⟩⟩⟩
    refine (plays_any r1 r2 hs1 hs2 a n cap op W hS').mono ?_
    rintro e w' ⟨he, hw⟩
    exact ⟨he, hb.trans (hw.mono hb.size)⟩
  have Hpl := hide hpl
  clear hpl
  unfold Raw.agg at *
  go_enter Try.func3, Try.ntmps3
  go_wp2_with (go_at_call 5; refine (Hpl.out _ (((Below.refl _ _).alloc (Nat.le_refl _) _).alloc (by simp) _)).mono ?_; rintro e w1 ⟨rfl, hb⟩)
  go_ret
  exact ⟨rfl, hb⟩

section
variable {H : Type} {enc : TypeId × Value → H}

theorem wf_i64 {x : Int} (h : (Lit.int .i64 x).wf = true) : i64 x := by
  unfold i64
  simp [Lit.wf, IntKind.min, IntKind.max, IntKind.bits, IntKind.signed] at h
  omega

set_option maxRecDepth 100000 in
theorem open_cfg {W : World} {base : Nat} {sp : Nat → Bool} {v : Value} {d : DataW H} {p : List MemPlace} (hval : Value.okWide Try.prog W .any base 23 v) (h : DataW.Trod enc Try.prog W 0 sp true 23 v d p) : ∃ r : Raw, v = r.agg ∧ i64 r.seed := by
  obtain ⟨cs, rfl, hsz⟩ := okWide_struct Try.underlying23 hval
  rw [Try.cells23'] at hsz
  obtain ⟨fuel, hf⟩ := h
  obtain ⟨xs, n, _, hx, hl, hlen, hfld⟩ := DataW.trod_struct Try.underlying23 hf
  have hlen7 : xs.length = 7 := by rw [hlen]; rfl
  obtain ⟨c0, c1, c2, c3, c4, c5, c6, rfl⟩ : ∃ c0 c1 c2 c3 c4 c5 c6, cs = #[c0, c1, c2, c3, c4, c5, c6] := by
    obtain ⟨l⟩ := cs
    match l, hsz with
    | [c0, c1, c2, c3, c4, c5, c6], _ => exact ⟨c0, c1, c2, c3, c4, c5, c6, rfl⟩
  have get : ∀ (i : Nat) c, i < 7 → (∃ y, DataW.trod enc Try.prog W 0 sp true n 3 [c] = some y) → ∃ z, c = .int .i64 z ∧ i64 z := fun i c _ ⟨y, hy⟩ => by
    obtain ⟨z, e, _, hw⟩ := DataW.trod_int Try.underlying3 hy
    simp at e
    exact ⟨z, e, wf_i64 hw⟩
  obtain ⟨z0, rfl, _⟩ := get 0 c0 (by omega) ⟨_, by have := hfld 0 _ rfl; simpa [Value.cells, Try.cells3', hlen7] using this⟩
  obtain ⟨z1, rfl, _⟩ := get 1 c1 (by omega) ⟨_, by have := hfld 1 _ rfl; simpa [Value.cells, Try.cells3', hlen7] using this⟩
  obtain ⟨z2, rfl, _⟩ := get 2 c2 (by omega) ⟨_, by have := hfld 2 _ rfl; simpa [Value.cells, Try.cells3', hlen7] using this⟩
  obtain ⟨z3, rfl, _⟩ := get 3 c3 (by omega) ⟨_, by have := hfld 3 _ rfl; simpa [Value.cells, Try.cells3', hlen7] using this⟩
  obtain ⟨z4, rfl, _⟩ := get 4 c4 (by omega) ⟨_, by have := hfld 4 _ rfl; simpa [Value.cells, Try.cells3', hlen7] using this⟩
  obtain ⟨z5, rfl, _⟩ := get 5 c5 (by omega) ⟨_, by have := hfld 5 _ rfl; simpa [Value.cells, Try.cells3', hlen7] using this⟩
  obtain ⟨z6, rfl, h6⟩ := get 6 c6 (by omega) ⟨_, by have := hfld 6 _ rfl; simpa [Value.cells, Try.cells3', hlen7] using this⟩
  exact ⟨⟨z0, z1, z2, z3, z4, z5, z6⟩, rfl, h6⟩

theorem weightsAll_mem {P : Program} {e : TypeId} {d : DataW H} {n : Nat} (hn : n ∈ d.weights P e) : ∀ {l : List (DataW H)}, d ∈ l → n ∈ DataW.weightsAll P e l
  | x :: r, h => by
    simp only [DataW.weightsAll, List.mem_append]
    rcases List.mem_cons.1 h with rfl | h
    · exact .inl hn
    · exact .inr (weightsAll_mem hn h)

theorem cell_lt {w : World} {a : Addr} {v : Value} (h : w.cell? a = some v) : a.block < w.heap.size := by
  unfold World.cell? at h
  cases hb : w.heap[a.block]? with
  | none => rw [hb] at h; cases h
  | some o => exact (Array.getElem?_eq_some_iff.1 hb).1

theorem addr_add (b off : Nat) (k : Nat) : (⟨b, off, none⟩ : Addr).add k = ⟨b, off + k, none⟩ := by unfold Addr.add; split <;> simp_all

set_option maxRecDepth 100000 in
theorem open_op {W : World} {A : Addr} {cs : List Value} {n : Nat} {D : DataW H} {Pl : List MemPlace} (hc : W.cells? 0 A 6 = some cs) (ht : DataW.trod enc Try.prog W 0 (fun _ => true) true n 38 cs = some (D, Pl)) (hw : ∀ k ∈ D.weights Try.prog 38, k ≤ 140737488351232) :
    ∃ (b off : Nat) (o : OpD), A = ⟨b, off, none⟩ ∧ b < W.heap.size ∧ W.cell? ⟨b, off, none⟩ = some (.int .i64 o.H) ∧ W.cell? ⟨b, off + 1, none⟩ = some (.int .i64 o.K) ∧ W.cell? ⟨b, off + 2, none⟩ = some (.int .i64 o.A) ∧ W.cell? ⟨b, off + 3, none⟩ = some (.int .i64 o.Bv) ∧ W.cell? ⟨b, off + 4, none⟩ = some (.int .i64 o.C) ∧ W.cell? ⟨b, off + 5, none⟩ = some o.vT ∧ ArgI W.heap.size W o.vT o.nT o.fT ∧ i64 o.H ∧ i64 o.A := by
  obtain ⟨_, hl6, hcell⟩ := World.cells?_some hc
  obtain ⟨xs, m, _, hx, hl, hlen, hfld⟩ := DataW.trod_struct Try.underlying38 ht
  have hlen6 : xs.length = 6 := by rw [hlen]; rfl
  obtain ⟨c0, c1, c2, c3, c4, c5, rfl⟩ : ∃ c0 c1 c2 c3 c4 c5, cs = [c0, c1, c2, c3, c4, c5] := by
    match cs, hl6 with
    | [c0, c1, c2, c3, c4, c5], _ => exact ⟨c0, c1, c2, c3, c4, c5, rfl⟩
  have r0 := hcell 0 (by omega)
  obtain ⟨b, off, spot⟩ := A
  have hspot : spot = none := by simpa [Addr.add] using World.cell?_spot r0
  subst hspot
  have r1 := hcell 1 (by omega)
  have r2 := hcell 2 (by omega)
  have r3 := hcell 3 (by omega)
  have r4 := hcell 4 (by omega)
  have r5 := hcell 5 (by omega)
  simp only [addr_add, Nat.add_zero] at r0 r1 r2 r3 r4 r5
  have get : ∀ c, (∃ y, DataW.trod enc Try.prog W 0 (fun _ => true) true m 3 [c] = some y) → ∃ z, c = .int .i64 z ∧ i64 z := fun c ⟨y, hy⟩ => by
    obtain ⟨z, e, _, hw⟩ := DataW.trod_int Try.underlying3 hy
    simp at e
    exact ⟨z, e, wf_i64 hw⟩
  obtain ⟨z0, rfl, w0⟩ := get c0 ⟨_, by have := hfld 0 _ rfl; simpa [Try.cells3', hlen6] using this⟩
  obtain ⟨z1, rfl, _⟩ := get c1 ⟨_, by have := hfld 1 _ rfl; simpa [Try.cells3', hlen6] using this⟩
  obtain ⟨z2, rfl, w2⟩ := get c2 ⟨_, by have := hfld 2 _ rfl; simpa [Try.cells3', hlen6] using this⟩
  obtain ⟨z3, rfl, _⟩ := get c3 ⟨_, by have := hfld 3 _ rfl; simpa [Try.cells3', hlen6] using this⟩
  obtain ⟨z4, rfl, _⟩ := get c4 ⟨_, by have := hfld 4 _ rfl; simpa [Try.cells3', hlen6] using this⟩
  have h5 : ∃ y, xs[5]? = some y ∧ DataW.trod enc Try.prog W 0 (fun _ => true) true m 36 [c5] = some y := ⟨xs[5], List.getElem?_eq_getElem (by omega), by have := hfld 5 _ rfl; simpa [Try.cells36', hlen6] using this⟩
  obtain ⟨y5, e5, t5⟩ := h5
  injection hx with hx1 _
  rcases open_ints Try.underlying36 Try.underlying3 Try.cells3' t5 with ⟨e, _⟩ | ⟨a, len, cap, zs, e, _, hlc, hcm, hzl, hy, hcl, _⟩
  · simp at e
    subst e
    exact ⟨b, off, ⟨z0, z1, z2, z3, z4, .slice none 0 0, 0, fun _ => 0⟩, rfl, cell_lt r0, r0, r1, r2, r3, r4, r5, .inl ⟨rfl, rfl⟩, w0, w2⟩
  · simp at e
    subst e
    simp only [if_true] at hzl
    have hwt : (len + (cap - len)) * 8 ≤ 140737488351232 := by
      refine hw _ ?_
      rw [hx1]
      have hd5 : (xs.map (·.1))[5]? = some y5.1 := by rw [List.getElem?_map, e5]; rfl
      have := DataW.weights_mem_each (P := Try.prog) (ts := [3, 3, 3, 3, 3, 36]) (ds := xs.map (·.1)) (j := 5) (t := 36) rfl hd5 ((len + (cap - len)) * 8) (by
        rw [hy]
        simp only [DataW.weights, Try.underlying36, List.mem_cons]
        left
        rw [Try.bytes3']
        simp [lits]
        omega)
      simpa [DataW.weights, Try.underlying38] using this
    refine ⟨b, off, ⟨z0, z1, z2, z3, z4, .slice (some a) len cap, len, fun j => zs.getD j 0⟩, rfl, cell_lt r0, r0, r1, r2, r3, r4, r5, .inr ⟨a, cap, rfl, hlc, hcm, (by show len * 8 ≤ 140737488351232; omega), fun j hj => ?_⟩, w0, w2⟩
    have hj' : j < len := hj
    have hc5 := hcl j (by omega)
    have hc0 := hcl 0 (by omega)
    obtain ⟨ab, ao, asp⟩ := a
    have hsp : asp = none := by simpa [Addr.add] using World.cell?_spot hc0
    subst hsp
    rw [addr_add] at hc5
    exact ⟨rfl, cell_lt (a := ⟨ab, ao + j, none⟩) hc5, hc5⟩

set_option maxRecDepth 100000 in
theorem open_script {W : World} {base : Nat} {v : Value} {d : DataW H} {p : List MemPlace} (hval : Value.okWide Try.prog W .any base 24 v) (h : DataW.Trod enc Try.prog W 0 (fun _ => true) true 24 v d p) (hw : ∀ k ∈ d.weights Try.prog 24, k ≤ 140737488351232) : ∃ a n cap op, v = .slice a n cap ∧ ScriptI W a n cap op := by
  obtain ⟨a0, len, cap, rfl⟩ := okWide_slice Try.underlying24 hval
  obtain ⟨fuel, hf⟩ := h
  refine ⟨a0, len, cap, ?_⟩
  rcases open_slice Try.underlying24 hf with ⟨hcs, hx⟩ | ⟨a, len', cap', m, n, D, Pl, hcs, _, hl, hm, hmm, hx, hel⟩
  · simp [Value.cells] at hcs
    obtain ⟨rfl, rfl, rfl⟩ := hcs
    exact ⟨fun _ => ⟨0, 0, 0, 0, 0, .slice none 0 0, 0, fun _ => 0⟩, rfl, by omega, by simp [maxLen], by omega, fun i hi => absurd hi (by omega), fun i hi => absurd hi (by omega)⟩
  · simp [Value.cells] at hcs
    obtain ⟨rfl, rfl, rfl⟩ := hcs
    simp only [if_true] at hmm
    subst hmm
    injection hx with hx1 _
    subst hx1
    have hmany : len * 64 ≤ 140737488351232 := by
      have := hw ((len + (m - len)) * 64) (by
        simp only [DataW.weights, Try.underlying24, List.mem_cons]
        left
        rw [Try.bytes38']
        simp)
      omega
    have each : ∀ i, ∃ o : OpD, i < len → ∃ b off, a.add (i * 6) = ⟨b, off, none⟩ ∧ b < W.heap.size ∧ W.cell? ⟨b, off, none⟩ = some (.int .i64 o.H) ∧ W.cell? ⟨b, off + 1, none⟩ = some (.int .i64 o.K) ∧ W.cell? ⟨b, off + 2, none⟩ = some (.int .i64 o.A) ∧ W.cell? ⟨b, off + 3, none⟩ = some (.int .i64 o.Bv) ∧ W.cell? ⟨b, off + 4, none⟩ = some (.int .i64 o.C) ∧ W.cell? ⟨b, off + 5, none⟩ = some o.vT ∧ ArgI W.heap.size W o.vT o.nT o.fT ∧ i64 o.H ∧ i64 o.A := fun i => by
      by_cases hi : i < len
      · obtain ⟨cs', hc, ht⟩ := hel i (by omega)
        rw [Try.cells38'] at hc
        obtain ⟨b, off, o, q⟩ := open_op hc ht (fun k hk => hw k (by
          simp only [DataW.weights, Try.underlying24, List.mem_cons, List.mem_append]
          exact .inr (.inl (weightsAll_mem hk (List.mem_map.2 ⟨i, List.mem_range.2 hi, rfl⟩)))))
        exact ⟨o, fun _ => ⟨b, off, q⟩⟩
      · exact ⟨⟨0, 0, 0, 0, 0, .slice none 0 0, 0, fun _ => 0⟩, fun h => absurd h hi⟩
    obtain ⟨op, hop⟩ := Classical.skolem.1 each
    refine ⟨op, rfl, hl, hm, by omega, fun i hi => ?_, fun i hi => ?_⟩
    · obtain ⟨b, off, e, q0, q1, q2, q3, q4, q5, q6, _⟩ := hop i hi
      obtain ⟨b0, off0, e0, _⟩ := hop 0 (by omega)
      obtain ⟨ab, ao, asp⟩ := a
      have hsp : asp = none := by
        have := congrArg Addr.spot e0
        simpa [Addr.add] using this
      subst hsp
      rw [addr_add] at e
      injection e with e1 e2 _
      subst e1 e2
      exact ⟨ab, ao, rfl, q0, q1, q2, q3, q4, q5, q6⟩
    · obtain ⟨b, off, e, q0, q1, q2, q3, q4, q5, q6, q7⟩ := hop i hi
      exact q7

end

set_option maxRecDepth 100000 in
set_option maxHeartbeats 4000000 in
theorem holds_lifted (os : Os) (started : os.Started) (H : Type) (enc : TypeId × Value → H) :
    ReturnsInHanded {} Try.checked os 3 .any (Rows.holdsSpec.pre6 enc Try.prog Try.f3 Rows.holdsRow.domain false) (Rows.holdsSpec.post enc Try.prog Try.f3 false true false false) := by
  refine returnsInHanded_of_change_sized (C := Try.checked) own' started (by kernel_rfl) Try.func3
    (ChangeSpec.witness6 (enc := enc) (C := Try.checked) false ⟨#[], #[.agg #[.int .i64 0, .int .i64 0, .int .i64 0, .int .i64 0, .int .i64 0, .int .i64 0, .int .i64 0], .agg #[.int .i64 0, .int .i64 0, .int .i64 0, .int .i64 0, .int .i64 0, .int .i64 0, .int .i64 0], .slice none 0 0], []⟩ 8 (by kernel_rfl) (by kernel_rfl) (by kernel_rfl) (by kernel_rfl)) ?_
  intro W base args ds gs before hval0 hW _ hreach0 _
  have hval : ∀ (j : Nat) t v, Try.f3.params[j]? = some t → args[j]? = some v → Value.okWide Try.prog W .any base t v := hval0
  have hW' := hW
  obtain ⟨p, q, hA0, hV, rfl, _, _⟩ := hW
  have hA : DataW.TrodAll enc Try.prog W 0 (fun _ => true) true Try.f3.params.toList args.toList ds p := hA0
  obtain ⟨rfl, rfl⟩ := trodVars_none hV
  have hreach : (DataW.weightsEach Try.prog (Try.f3.params.toList ++ Rows.holdsSpec.plain.varTypes Try.prog) (ds ++ [])).all (· ≤ reachBytes) = true := hreach0
  rw [Try.params3] at hA hval hreach
  obtain ⟨v0, vs0, d0, ds0, p0, q0, hargs, rfl, rfl, h0, t0⟩ := trodAll_cons hA
  obtain ⟨v1, vs1, d1, ds1, p1, q1, rfl, rfl, rfl, h1, t1⟩ := trodAll_cons t0
  obtain ⟨v2, vs2, d2, ds2, p2, q2, rfl, rfl, rfl, h2, t2⟩ := trodAll_cons t1
  obtain ⟨rfl, rfl, rfl⟩ := trodAll_nil t2
  obtain rfl : args = #[v0, v1, v2] := by cases args; simp_all
  clear hA0 hval0
  simp only [List.append_nil] at hW'
  have hlt : ∀ x ∈ p0 ++ (p1 ++ (p2 ++ [])), x.block < W.heap.size := fun x hx => by simpa using hW'.lt x (by simpa using hx)
  have hwt : ∀ k ∈ d2.weights Try.prog 24, k ≤ 140737488351232 := fun k hk => by
    have h' := List.all_eq_true.1 hreach k (DataW.weights_mem_each (j := 2) (t := 24) (d := d2) rfl rfl k hk)
    exact of_decide_eq_true h'
  obtain ⟨r1, rfl, hs1⟩ := open_cfg (hval 0 23 v0 rfl rfl) h0
  obtain ⟨r2, rfl, hs2⟩ := open_cfg (hval 1 23 v1 rfl rfl) h1
  obtain ⟨a, n, cap, op, rfl, hS⟩ := open_script (hval 2 24 v2 rfl rfl) h2 hwt
  refine (holds_any r1 r2 hs1 hs2 a n cap op W hS).mono fun e W' ⟨he, hb⟩ => ?_
  subst he
  have k0 := Below.trod laidOut' (by kernel_rfl) (of_decide_eq_true (by kernel_rfl)) h0 hb (fun x hx => hlt x (by simp [hx]))
  have k1 := Below.trod laidOut' (by kernel_rfl) (of_decide_eq_true (by kernel_rfl)) h1 hb (fun x hx => hlt x (by simp [hx]))
  have k2 := Below.trod laidOut' (by kernel_rfl) (of_decide_eq_true (by kernel_rfl)) h2 hb (fun x hx => hlt x (by simp [hx]))
  exact ⟨_, rfl, ⟨_, _, _, [], _, [], hW', trodAll_mk1 (shut_bool Try.underlying4 true), trodAll_cons_mk k0 (trodAll_cons_mk k1 (trodAll_cons_mk k2 trodAll_mk0)), rfl, hb.frame _, fun h => by cases h⟩⟩

/-- The statement. -/
theorem holds_proved : Rows.HoldsSaid :=
  OpenClaim.holds_of_wide 3 Try.f3 rfl rfl rfl rfl rfl rfl rfl ⟨rfl, rfl, rfl, rfl, rfl⟩ rfl rfl rfl rfl rfl (by kernel_rfl) Try.func3 (by kernel_rfl)
    (of_decide_eq_true (by kernel_rfl)) (by unfold Func.isWrapper; first | (rw [if_pos (by decide +kernel)]; kernel_rfl) | (rw [if_neg (by decide +kernel)]; exact ⟨rfl, rfl⟩))
    (fun os started H enc _ => holds_lifted os started H enc)
#print axioms holds_proved

end Go.Proofs.Ytaidjhlijadmiaa
