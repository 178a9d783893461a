import Derived.Test.YtlmflighkkgikaaP49

namespace Go.Proofs.Ytlmflighkkgikaa
open Go.ChangeShapes Go.WideShapes Go.ChangeAt Go.RowKit Go.Deep
section
variable {H : Type} {enc : TypeId × Value → H}
set_option maxRecDepth 100000 in
theorem open_act {W : World} {A : Addr} {cs : List Value} {n : Nat} {D : DataW H} {Pl : List MemPlace} (hc : W.cells? 0 A 4 = some cs) (ht : DataW.trod enc Try.prog W 0 (fun _ => true) true n 48 cs = some (D, Pl)) :
   ∃ (b off : Nat) (o : ActD), A = ⟨b, off, none⟩ ∧ b < W.heap.size ∧ W.cell? ⟨b, off, none⟩ = some (.int .i64 o.K) ∧ W.cell? ⟨b, off + 1, none⟩ = some (.int .i64 o.A) ∧ W.cell? ⟨b, off + 2, none⟩ = some (.int .i64 o.B) ∧ W.cell? ⟨b, off + 3, none⟩ = some o.vT ∧ o.ok W := by
 obtain ⟨_, hl4, hcell⟩ := World.cells?_some hc
 obtain ⟨xs, m, _, hx, hl, hlen, hfld⟩ := DataW.trod_struct Try.underlying48 ht
 have hlen4 : xs.length = 4 := by rw [hlen]; rfl
 obtain ⟨c0, c1, c2, c3, rfl⟩ : ∃ c0 c1 c2 c3, cs = [c0, c1, c2, c3] := by
   match cs, hl4 with
   | [c0, c1, c2, c3], _ => exact ⟨c0, c1, c2, c3, rfl⟩
 have r0 := hcell 0 (by omega)
 obtain ⟨b, off, spot⟩ := A
 have hspot : spot = none := by simpa [Addr.add] using World.cell?_spot r0
 subst hspot
 have r1 := hcell 1 (by omega)
 have r2 := hcell 2 (by omega)
 have r3 := hcell 3 (by omega)
 simp only [addr_add, Nat.add_zero] at r0 r1 r2 r3
 have get : ∀ c, (∃ y, DataW.trod enc Try.prog W 0 (fun _ => true) true m 3 [c] = some y) → ∃ z, c = .int .i64 z ∧ kI z := fun c ⟨y, hy⟩ => by
   obtain ⟨z, e, _, hw⟩ := DataW.trod_int Try.underlying3 hy
   simp at e
   exact ⟨z, e, wf_kI hw⟩
 obtain ⟨z0, rfl, w0⟩ := get c0 ⟨_, by have := hfld 0 _ rfl; simpa [Try.kcells_int, hlen4] using this⟩
 obtain ⟨z1, rfl, w1⟩ := get c1 ⟨_, by have := hfld 1 _ rfl; simpa [Try.kcells_int, hlen4] using this⟩
 obtain ⟨z2, rfl, w2⟩ := get c2 ⟨_, by have := hfld 2 _ rfl; simpa [Try.kcells_int, hlen4] using this⟩
 have h3 : DataW.trod enc Try.prog W 0 (fun _ => true) true m 24 [c3] = some xs[3] := by have := hfld 3 _ rfl; simpa [Try.kcells_ints, hlen4] using this
 obtain ⟨n3, f3, hi3, hk3⟩ := list_of h3
 exact ⟨b, off, ⟨z0, z1, z2, n3, f3, c3⟩, rfl, kcell_lt r0, r0, r1, r2, r3, w0, w1, w2, hi3, hk3⟩
set_option maxRecDepth 100000 in
theorem open_acts {W : World} {base : Nat} {v : Value} {d : DataW H} {p : List MemPlace} (hval : Value.okWide Try.prog W .any base 46 v) (h : DataW.Trod enc Try.prog W 0 (fun _ => true) true 46 v d p) : ∃ a n cap act, v = .slice a n cap ∧ ActsI W a n cap act := by
 obtain ⟨a0, len, cap, rfl⟩ := okWide_slice Try.underlying46 hval
 obtain ⟨fuel, hf⟩ := h
 refine ⟨a0, len, cap, ?_⟩
 rcases open_slice Try.underlying46 hf with ⟨hcs, hx⟩ | ⟨a, len', cap', m, n, D, Pl, hcs, _, hl, hm, hmm, hx, hel⟩
 · simp [Value.cells] at hcs
   obtain ⟨rfl, rfl, rfl⟩ := hcs
   exact ⟨fun _ => ⟨0, 0, 0, 0, fun _ => 0, .slice none 0 0⟩, rfl, by omega, by simp [maxLen], fun i hi => absurd hi (by omega), fun i hi => absurd hi (by omega)⟩
 · simp [Value.cells] at hcs
   obtain ⟨rfl, rfl, rfl⟩ := hcs
   simp only [if_true] at hmm
   subst hmm
   have each : ∀ i, ∃ o : ActD, i < len → ∃ b off, a.add (i * 4) = ⟨b, off, none⟩ ∧ b < W.heap.size ∧ W.cell? ⟨b, off, none⟩ = some (.int .i64 o.K) ∧ W.cell? ⟨b, off + 1, none⟩ = some (.int .i64 o.A) ∧ W.cell? ⟨b, off + 2, none⟩ = some (.int .i64 o.B) ∧ W.cell? ⟨b, off + 3, none⟩ = some o.vT ∧ o.ok W := fun i => by
     by_cases hi : i < len
     · obtain ⟨cs', hc, ht⟩ := hel i (by omega)
       rw [Try.kcells_act] at hc
       obtain ⟨b, off, o, q⟩ := open_act hc ht
       exact ⟨o, fun _ => ⟨b, off, q⟩⟩
     · exact ⟨⟨0, 0, 0, 0, fun _ => 0, .slice none 0 0⟩, fun h => absurd h hi⟩
   obtain ⟨act, hop⟩ := Classical.skolem.1 each
   refine ⟨act, rfl, hl, hm, fun i hi => ?_, fun i hi => ?_⟩
   · obtain ⟨b, off, e, u0, u1, u2, u3, u4, _⟩ := hop i hi
     obtain ⟨b0, off0, e0, _⟩ := hop 0 (by omega)
     obtain ⟨ab, ao, asp⟩ := a
     have hsp : asp = none := by
       have := congrArg Addr.spot e0
       simpa [Addr.add] using this
     subst hsp
     rw [addr_add] at e
     injection e with e1 e2 _
     subst e1 e2
     exact ⟨ab, ao, rfl, u0, u1, u2, u3, u4⟩
   · obtain ⟨b, off, e, u0, u1, u2, u3, u4, u5⟩ := hop i hi
     exact u5
end
end Go.Proofs.Ytlmflighkkgikaa
