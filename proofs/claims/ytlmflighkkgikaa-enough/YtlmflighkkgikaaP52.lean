import Derived.Test.YtlmflighkkgikaaP48
import Derived.Test.YtlmflighkkgikaaP50

namespace Go.Proofs.Ytlmflighkkgikaa
open Go.RowKit
def mineOf (a : ActD) : Int := if pickI a.K 10 = 7 then pickI a.B 5 else if pickI a.K 10 = 9 then -1 else pickI a.A 5
theorem stepM_alone (c : Cfg) (m : TM) (a : ActD) (k : Int) : (stepM c m a).map k = m k ∨ (k = mineOf a ∧ (stepM c m a).code = 0) := by
 have hu : ∀ (id : Int) (o : Option (List Nat)), updM m id o k = m k ∨ k = id := fun id o => by
   unfold updM
   by_cases h : k = id
   · exact .inr h
   · exact .inl (if_neg h)
 have hA : pickI a.K 10 ≠ 7 → pickI a.K 10 ≠ 9 → mineOf a = pickI a.A 5 := fun q1 q2 => by unfold mineOf; rw [if_neg q1, if_neg q2]
 have hB : pickI a.K 10 = 7 → mineOf a = pickI a.B 5 := fun q => by unfold mineOf; rw [if_pos q]
 unfold stepM
 by_cases h2 : pickI a.K 10 ≤ 2
 · rw [if_pos h2, hA (by omega) (by omega)]
   cases m (pickI a.A 5) with
   | some t => exact .inl rfl
   | none =>
     simp only []
     by_cases h0 : min a.n 9 = 0
     · rw [if_pos h0]; exact .inl rfl
     · rw [if_neg h0]
       exact (hu _ _).imp id (fun q => ⟨q, rfl⟩)
 · rw [if_neg h2]
   by_cases h4 : pickI a.K 10 ≤ 4
   · rw [if_pos h4, hA (by omega) (by omega)]
     cases m (pickI a.A 5) with
     | none => exact .inl rfl
     | some t =>
       simp only []
       by_cases h0 : 40 < t.length + min a.n 4
       · rw [if_pos h0]; exact .inl rfl
       · rw [if_neg h0]
         exact (hu _ _).imp id (fun q => ⟨q, rfl⟩)
   · rw [if_neg h4]
     by_cases h6 : pickI a.K 10 ≤ 6
     · rw [if_pos h6, hA (by omega) (by omega)]
       cases m (pickI a.A 5) with
       | none => exact .inl rfl
       | some t =>
         simp only []
         by_cases h0 : 40 < (t.length : Int) + pickI a.B 5
         · rw [if_pos h0]; exact .inl rfl
         · rw [if_neg h0]
           exact (hu _ _).imp id (fun q => ⟨q, rfl⟩)
     · rw [if_neg h6]
       by_cases h7 : pickI a.K 10 = 7
       · rw [if_pos h7, hB h7]
         cases m (pickI a.A 5) with
         | none => exact .inl rfl
         | some t =>
           simp only []
           cases m (pickI a.B 5) with
           | some t' => exact .inl rfl
           | none => exact (hu _ _).imp id (fun q => ⟨q, rfl⟩)
       · rw [if_neg h7]
         by_cases h8 : pickI a.K 10 = 8
         · rw [if_pos h8, hA (by omega) (by omega)]
           cases m (pickI a.A 5) with
           | none => exact .inl rfl
           | some t => exact (hu _ _).imp id (fun q => ⟨q, rfl⟩)
         · rw [if_neg h8]
           exact .inl rfl
structure OneK (B0 : Nat) (wb w : World) (X : Nat) (c : Cfg) (p : HD) : Prop where
 hp : HeldK B0 w p
 ip : idsK p.L
 bel : Below B0 wb w
 X : p.g.X = X
 c : p.c = c
 B : B0 ≤ wb.heap.size
section
variable {B0 : Nat} {wb w : World} {X : Nat} {c : Cfg} {p : HD}
theorem OneK.size (h : OneK B0 wb w X c p) : B0 ≤ w.heap.size := Nat.le_trans h.B h.bel.size
theorem OneK.below {w' : World} (h : OneK B0 wb w X c p) (hb : Below w.heap.size w w') : OneK B0 wb w' X c p :=
 ⟨h.hp.below hb, h.ip, h.bel.trans (hb.mono h.size), h.X, h.c, h.B⟩
theorem OneK.acted {w' : World} {p' : HD} (h : OneK B0 wb w X c p) (hp' : HeldK B0 w' p') (ha : ActedK w w' p p') (hi : idsK p'.L) : OneK B0 wb w' X c p' :=
 ⟨hp', hi, h.bel.trans (h.hp.bel ha h.size), ha.g ▸ h.X, ha.c.trans h.c, h.B⟩
noncomputable def stat3 (c : Cfg) (p : HD) : Nat × Nat × Nat := (freeS c (p.L.map (·.2)) p.il, p.il.length, nUsed c.slots (p.L.map (·.2)))
theorem one_stats (h : OneK B0 wb w X c p) : ∃ f i u : Nat, (f, i, u) = stat3 c p ∧ f + i + u = c.blocks ∧ c.blocks ≤ 32 ∧ ∀ W, Below w.heap.size w W →
   Calls Try.prog 18 #[.pointer (some ⟨X, 0, none⟩)] W fun e w' => e = .returned (.agg #[.int .i64 f, .int .i64 i, .int .i64 u]) ∧ Below W.heap.size W w' := by
 have h3 := h.hp.pure0.2.2
 have h4 := h.hp.cok.blocks.2
 rw [h.c] at h3 h4
 refine ⟨_, _, _, rfl, h3, h4, fun W hW => ?_⟩
 have := kstats (h.hp.below hW)
 rw [h.X, h.c] at this
 exact this
structure ActK (p p' : HD) (a : ActD) (code : Nat) : Prop where
 still : code ≠ 0 → StillK p p'
 alone : ∀ k : Int, tkM p'.L k = tkM p.L k ∨ (k = mineOf a ∧ code = 0)
 full : code = 6 → FullK p a
def DoesK (B0 : Nat) (wb w : World) (X : Nat) (c : Cfg) (p : HD) (a : ActD) (e : Ending) (w' : World) : Prop :=
 ∃ (code : Nat) (v : Value) (p' : HD), e = .returned (.tuple #[.int .i64 code, v]) ∧ (∀ e, ¬ mutT e → KeepT e w w') ∧ OneK B0 wb w' X c p' ∧ ActK p p' a code
theorem one_does (h : OneK B0 wb w X c p) {a : ActD} (ha : a.ok w) :
   Calls Try.prog 24 #[.pointer (some ⟨X, 0, none⟩), a.val, .int .i64 c.vocab] w (DoesK B0 wb w X c p a) := by
 have hk := did_any h.hp h.size ha h.ip
 rw [h.X, h.c] at hk
 refine hk.mono ?_
 rintro e w' ⟨code, v, p', rfl, hp', hac, hd⟩
 refine ⟨code, v, p', rfl, hac.moves.kept, h.acted hp' hac hd.ids, hd.still, fun k => ?_, fun h6 => ?_⟩
 · by_cases h0 : code = 0
   · rcases hd.said with ⟨q, _⟩ | ⟨e1, m1, _⟩
     · omega
     · rw [m1 k]
       exact (stepM_alone p.c (tkM p.L) a k).imp id (fun q => ⟨q.1, h0⟩)
   · exact .inl ((hd.still h0).map k)
 · rcases hd.said with ⟨_, q⟩ | ⟨e1, _, _⟩
   · exact q
   · exfalso
     have : (stepM p.c (tkM p.L) a).code ≠ 6 := by
       unfold stepM
       repeat' split
       all_goals simp
     omega
end
end Go.Proofs.Ytlmflighkkgikaa
