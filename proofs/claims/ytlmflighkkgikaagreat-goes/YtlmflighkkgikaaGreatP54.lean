import Derived.Test.YtlmflighkkgikaaGreatRows
import Derived.ProofKit
import Derived.ChangeSlices
import Derived.Deep.Slices
import Derived.Deep.Strs
import Derived.SizedLaws
import Derived.Carry
import Derived.OpenShut
import Derived.Test.YtlmflighkkgikaaGreatP53

namespace Go.Proofs.YtlmflighkkgikaaGreat
open Go.ChangeShapes Go.WideShapes Go.ChangeAt Go.RowKit Go.Deep
theorem own' : ownKnob Tryz.prog.godebug = none := by kernel_rfl
theorem laidOut' : laidOutB Tryz.prog = true := by kernel_rfl
theorem Tryz.cells3' : Tryz.prog.cellsOf 3 = 1 := by kernel_rfl
theorem Tryz.cells36' : Tryz.prog.cellsOf 36 = 1 := by kernel_rfl
theorem Tryz.cells38' : Tryz.prog.cellsOf 38 = 6 := by kernel_rfl
theorem Tryz.cells23' : Tryz.prog.cellsOf 23 = 7 := by kernel_rfl
theorem Tryz.bytes38' : Tryz.prog.bytesOf 38 = 64 := by kernel_rfl
theorem Tryz.bytes3' : Tryz.prog.bytesOf 3 = 8 := by kernel_rfl
theorem ScriptI.below {W0 W : World} {a : Option Addr} {n cap : Nat} {op : Nat → OpD} (hS : ScriptI W0 a n cap op) (hb : Below W0.heap.size W0 W) : ScriptI W a n cap op :=
 ⟨hS.le, hS.cap, hS.many, fun i hi => by
     obtain ⟨b, off, e, hlt, h0, h1, h2, h3, h4, h5⟩ := hS.at' i hi
     exact ⟨b, off, e, Nat.lt_of_lt_of_le hlt hb.size, (hb.cell (p := ⟨b, _, none⟩) hlt).trans h0, (hb.cell (p := ⟨b, _, none⟩) hlt).trans h1, (hb.cell (p := ⟨b, _, none⟩) hlt).trans h2, (hb.cell (p := ⟨b, _, none⟩) hlt).trans h3, (hb.cell (p := ⟨b, _, none⟩) hlt).trans h4, (hb.cell (p := ⟨b, _, none⟩) hlt).trans h5⟩, fun i hi => by
     obtain ⟨q1, q2⟩ := hS.arg i hi
     refine ⟨?_, q2⟩
     rcases q1.keep (fun k hk => hb.block k hk) with q | ⟨a', cap', e, u1, u2, u3, u4⟩
     · exact .inl q
     · exact .inr ⟨a', cap', e, u1, u2, u3, fun j hj => ⟨(u4 j hj).1, Nat.lt_of_lt_of_le (u4 j hj).2.1 hb.size, (u4 j hj).2.2⟩⟩⟩
section
variable {H : Type} {enc : TypeId × Value → H}
theorem wf_i64 {x : Int} (h : (Lit.int .i64 x).wf = true) : i64 x := by
 unfold i64
 simp [Lit.wf, IntKind.min, IntKind.max, IntKind.bits, IntKind.signed] at h
 omega
set_option maxRecDepth 100000 in
theorem open_cfg {W : World} {base : Nat} {sp : Nat → Bool} {v : Value} {d : DataW H} {p : List MemPlace} (hval : Value.okWide Tryz.prog W .any base 23 v) (h : DataW.Trod enc Tryz.prog W 0 sp true 23 v d p) : ∃ r : Raw, v = r.agg ∧ i64 r.seed := by
 obtain ⟨cs, rfl, hsz⟩ := okWide_struct Tryz.underlying23 hval
 rw [Tryz.cells23'] at hsz
 obtain ⟨fuel, hf⟩ := h
 obtain ⟨xs, n, _, hx, hl, hlen, hfld⟩ := DataW.trod_struct Tryz.underlying23 hf
 have hlen7 : xs.length = 7 := by rw [hlen]; rfl
 obtain ⟨c0, c1, c2, c3, c4, c5, c6, rfl⟩ : ∃ c0 c1 c2 c3 c4 c5 c6, cs = #[c0, c1, c2, c3, c4, c5, c6] := by
   obtain ⟨l⟩ := cs
   match l, hsz with
   | [c0, c1, c2, c3, c4, c5, c6], _ => exact ⟨c0, c1, c2, c3, c4, c5, c6, rfl⟩
 have get : ∀ (i : Nat) c, i < 7 → (∃ y, DataW.trod enc Tryz.prog W 0 sp true n 3 [c] = some y) → ∃ z, c = .int .i64 z ∧ i64 z := fun i c _ ⟨y, hy⟩ => by
   obtain ⟨z, e, _, hw⟩ := DataW.trod_int Tryz.underlying3 hy
   simp at e
   exact ⟨z, e, wf_i64 hw⟩
 obtain ⟨z0, rfl, _⟩ := get 0 c0 (by omega) ⟨_, by have := hfld 0 _ rfl; simpa [Value.cells, Tryz.cells3', hlen7] using this⟩
 obtain ⟨z1, rfl, _⟩ := get 1 c1 (by omega) ⟨_, by have := hfld 1 _ rfl; simpa [Value.cells, Tryz.cells3', hlen7] using this⟩
 obtain ⟨z2, rfl, _⟩ := get 2 c2 (by omega) ⟨_, by have := hfld 2 _ rfl; simpa [Value.cells, Tryz.cells3', hlen7] using this⟩
 obtain ⟨z3, rfl, _⟩ := get 3 c3 (by omega) ⟨_, by have := hfld 3 _ rfl; simpa [Value.cells, Tryz.cells3', hlen7] using this⟩
 obtain ⟨z4, rfl, _⟩ := get 4 c4 (by omega) ⟨_, by have := hfld 4 _ rfl; simpa [Value.cells, Tryz.cells3', hlen7] using this⟩
 obtain ⟨z5, rfl, _⟩ := get 5 c5 (by omega) ⟨_, by have := hfld 5 _ rfl; simpa [Value.cells, Tryz.cells3', hlen7] using this⟩
 obtain ⟨z6, rfl, h6⟩ := get 6 c6 (by omega) ⟨_, by have := hfld 6 _ rfl; simpa [Value.cells, Tryz.cells3', hlen7] using this⟩
 exact ⟨⟨z0, z1, z2, z3, z4, z5, z6⟩, rfl, h6⟩
theorem weightsAll_mem {P : Program} {e : TypeId} {d : DataW H} {n : Nat} (hn : n ∈ d.weights P e) : ∀ {l : List (DataW H)}, d ∈ l → n ∈ DataW.weightsAll P e l
 | x :: r, h => by
   simp only [DataW.weightsAll, List.mem_append]
   rcases List.mem_cons.1 h with rfl | h
   · exact .inl hn
   · exact .inr (weightsAll_mem hn h)
set_option maxRecDepth 100000 in
theorem open_op {W : World} {A : Addr} {cs : List Value} {n : Nat} {D : DataW H} {Pl : List MemPlace} (hc : W.cells? 0 A 6 = some cs) (ht : DataW.trod enc Tryz.prog W 0 (fun _ => true) true n 38 cs = some (D, Pl)) (hw : ∀ k ∈ D.weights Tryz.prog 38, k ≤ 140737488351232) :
   ∃ (b off : Nat) (o : OpD), A = ⟨b, off, none⟩ ∧ b < W.heap.size ∧ W.cell? ⟨b, off, none⟩ = some (.int .i64 o.H) ∧ W.cell? ⟨b, off + 1, none⟩ = some (.int .i64 o.K) ∧ W.cell? ⟨b, off + 2, none⟩ = some (.int .i64 o.A) ∧ W.cell? ⟨b, off + 3, none⟩ = some (.int .i64 o.Bv) ∧ W.cell? ⟨b, off + 4, none⟩ = some (.int .i64 o.C) ∧ W.cell? ⟨b, off + 5, none⟩ = some o.vT ∧ ArgI W.heap.size W o.vT o.nT o.fT ∧ i64 o.H ∧ i64 o.A ∧ i64 o.Bv := by
 obtain ⟨_, hl6, hcell⟩ := World.cells?_some hc
 obtain ⟨xs, m, _, hx, hl, hlen, hfld⟩ := DataW.trod_struct Tryz.underlying38 ht
 have hlen6 : xs.length = 6 := by rw [hlen]; rfl
 obtain ⟨c0, c1, c2, c3, c4, c5, rfl⟩ : ∃ c0 c1 c2 c3 c4 c5, cs = [c0, c1, c2, c3, c4, c5] := by
   match cs, hl6 with
   | [c0, c1, c2, c3, c4, c5], _ => exact ⟨c0, c1, c2, c3, c4, c5, rfl⟩
 have r0 := hcell 0 (by omega)
 obtain ⟨b, off, spot⟩ := A
 have hspot : spot = none := by simpa [Addr.add] using World.cell?_spot r0
 subst hspot
 have r1 := hcell 1 (by omega)
 have r2 := hcell 2 (by omega)
 have r3 := hcell 3 (by omega)
 have r4 := hcell 4 (by omega)
 have r5 := hcell 5 (by omega)
 simp only [addr_add, Nat.add_zero] at r0 r1 r2 r3 r4 r5
 have get : ∀ c, (∃ y, DataW.trod enc Tryz.prog W 0 (fun _ => true) true m 3 [c] = some y) → ∃ z, c = .int .i64 z ∧ i64 z := fun c ⟨y, hy⟩ => by
   obtain ⟨z, e, _, hw⟩ := DataW.trod_int Tryz.underlying3 hy
   simp at e
   exact ⟨z, e, wf_i64 hw⟩
 obtain ⟨z0, rfl, w0⟩ := get c0 ⟨_, by have := hfld 0 _ rfl; simpa [Tryz.cells3', hlen6] using this⟩
 obtain ⟨z1, rfl, _⟩ := get c1 ⟨_, by have := hfld 1 _ rfl; simpa [Tryz.cells3', hlen6] using this⟩
 obtain ⟨z2, rfl, w2⟩ := get c2 ⟨_, by have := hfld 2 _ rfl; simpa [Tryz.cells3', hlen6] using this⟩
 obtain ⟨z3, rfl, w3⟩ := get c3 ⟨_, by have := hfld 3 _ rfl; simpa [Tryz.cells3', hlen6] using this⟩
 obtain ⟨z4, rfl, _⟩ := get c4 ⟨_, by have := hfld 4 _ rfl; simpa [Tryz.cells3', hlen6] using this⟩
 have h5 : ∃ y, xs[5]? = some y ∧ DataW.trod enc Tryz.prog W 0 (fun _ => true) true m 36 [c5] = some y := ⟨xs[5], List.getElem?_eq_getElem (by omega), by have := hfld 5 _ rfl; simpa [Tryz.cells36', hlen6] using this⟩
 obtain ⟨y5, e5, t5⟩ := h5
 injection hx with hx1 _
 rcases open_ints Tryz.underlying36 Tryz.underlying3 Tryz.cells3' t5 with ⟨e, _⟩ | ⟨a, len, cap, zs, e, _, hlc, hcm, hzl, hy, hcl, _⟩
 · simp at e
   subst e
   exact ⟨b, off, ⟨z0, z1, z2, z3, z4, .slice none 0 0, 0, fun _ => 0⟩, rfl, cell_lt r0, r0, r1, r2, r3, r4, r5, .inl ⟨rfl, rfl⟩, w0, w2, w3⟩
 · simp at e
   subst e
   simp only [if_true] at hzl
   have hwt : (len + (cap - len)) * 8 ≤ 140737488351232 := by
     refine hw _ ?_
     rw [hx1]
     have hd5 : (xs.map (·.1))[5]? = some y5.1 := by rw [List.getElem?_map, e5]; rfl
     have := DataW.weights_mem_each (P := Tryz.prog) (ts := [3, 3, 3, 3, 3, 36]) (ds := xs.map (·.1)) (j := 5) (t := 36) rfl hd5 ((len + (cap - len)) * 8) (by
       rw [hy]
       simp only [DataW.weights, Tryz.underlying36, List.mem_cons]
       left
       rw [Tryz.bytes3']
       simp [lits]
       omega)
     simpa [DataW.weights, Tryz.underlying38] using this
   refine ⟨b, off, ⟨z0, z1, z2, z3, z4, .slice (some a) len cap, len, fun j => zs.getD j 0⟩, rfl, cell_lt r0, r0, r1, r2, r3, r4, r5, .inr ⟨a, cap, rfl, hlc, hcm, (by show len * 8 ≤ 140737488351232; omega), fun j hj => ?_⟩, w0, w2, w3⟩
   have hj' : j < len := hj
   have hc5 := hcl j (by omega)
   have hc0 := hcl 0 (by omega)
   obtain ⟨ab, ao, asp⟩ := a
   have hsp : asp = none := by simpa [Addr.add] using World.cell?_spot hc0
   subst hsp
   rw [addr_add] at hc5
   exact ⟨rfl, cell_lt (a := ⟨ab, ao + j, none⟩) hc5, hc5⟩
set_option maxRecDepth 100000 in
theorem open_script {W : World} {base : Nat} {v : Value} {d : DataW H} {p : List MemPlace} (hval : Value.okWide Tryz.prog W .any base 24 v) (h : DataW.Trod enc Tryz.prog W 0 (fun _ => true) true 24 v d p) (hw : ∀ k ∈ d.weights Tryz.prog 24, k ≤ 140737488351232) : ∃ a n cap op, v = .slice a n cap ∧ ScriptI W a n cap op := by
 obtain ⟨a0, len, cap, rfl⟩ := okWide_slice Tryz.underlying24 hval
 obtain ⟨fuel, hf⟩ := h
 refine ⟨a0, len, cap, ?_⟩
 rcases open_slice Tryz.underlying24 hf with ⟨hcs, hx⟩ | ⟨a, len', cap', m, n, D, Pl, hcs, _, hl, hm, hmm, hx, hel⟩
 · simp [Value.cells] at hcs
   obtain ⟨rfl, rfl, rfl⟩ := hcs
   exact ⟨fun _ => ⟨0, 0, 0, 0, 0, .slice none 0 0, 0, fun _ => 0⟩, rfl, by omega, by simp [maxLen], by omega, fun i hi => absurd hi (by omega), fun i hi => absurd hi (by omega)⟩
 · simp [Value.cells] at hcs
   obtain ⟨rfl, rfl, rfl⟩ := hcs
   simp only [if_true] at hmm
   subst hmm
   injection hx with hx1 _
   subst hx1
   have hmany : len * 64 ≤ 140737488351232 := by
     have := hw ((len + (m - len)) * 64) (by
       simp only [DataW.weights, Tryz.underlying24, List.mem_cons]
       left
       rw [Tryz.bytes38']
       simp)
     omega
   have each : ∀ i, ∃ o : OpD, i < len → ∃ b off, a.add (i * 6) = ⟨b, off, none⟩ ∧ b < W.heap.size ∧ W.cell? ⟨b, off, none⟩ = some (.int .i64 o.H) ∧ W.cell? ⟨b, off + 1, none⟩ = some (.int .i64 o.K) ∧ W.cell? ⟨b, off + 2, none⟩ = some (.int .i64 o.A) ∧ W.cell? ⟨b, off + 3, none⟩ = some (.int .i64 o.Bv) ∧ W.cell? ⟨b, off + 4, none⟩ = some (.int .i64 o.C) ∧ W.cell? ⟨b, off + 5, none⟩ = some o.vT ∧ ArgI W.heap.size W o.vT o.nT o.fT ∧ i64 o.H ∧ i64 o.A ∧ i64 o.Bv := fun i => by
     by_cases hi : i < len
     · obtain ⟨cs', hc, ht⟩ := hel i (by omega)
       rw [Tryz.cells38'] at hc
       obtain ⟨b, off, o, q⟩ := open_op hc ht (fun k hk => hw k (by
         simp only [DataW.weights, Tryz.underlying24, List.mem_cons, List.mem_append]
         exact .inr (.inl (weightsAll_mem hk (List.mem_map.2 ⟨i, List.mem_range.2 hi, rfl⟩)))))
       exact ⟨o, fun _ => ⟨b, off, q⟩⟩
     · exact ⟨⟨0, 0, 0, 0, 0, .slice none 0 0, 0, fun _ => 0⟩, fun h => absurd h hi⟩
   obtain ⟨op, hop⟩ := Classical.skolem.1 each
   refine ⟨op, rfl, hl, hm, by omega, fun i hi => ?_, fun i hi => ?_⟩
   · obtain ⟨b, off, e, q0, q1, q2, q3, q4, q5, q6, _⟩ := hop i hi
     obtain ⟨b0, off0, e0, _⟩ := hop 0 (by omega)
     obtain ⟨ab, ao, asp⟩ := a
     have hsp : asp = none := by
       have := congrArg Addr.spot e0
       simpa [Addr.add] using this
     subst hsp
     rw [addr_add] at e
     injection e with e1 e2 _
     subst e1 e2
     exact ⟨ab, ao, rfl, q0, q1, q2, q3, q4, q5, q6⟩
   · obtain ⟨b, off, e, q0, q1, q2, q3, q4, q5, q6, q7⟩ := hop i hi
     exact q7
end
end Go.Proofs.YtlmflighkkgikaaGreat
