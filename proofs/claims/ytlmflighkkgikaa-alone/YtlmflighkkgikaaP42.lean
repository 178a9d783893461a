import Derived.Test.YtlmflighkkgikaaP40
import Derived.Test.YtlmflighkkgikaaP41

namespace Go.Proofs.Ytlmflighkkgikaa
open Go.RowKit
structure HD where
 g : Parts
 c : Cfg
 L : List (Int × Key)
 il : List (List Nat)
 F : Nat → Prop
def HD.S (p : HD) (k : Nat) : Prop := p.F k ∨ k = p.g.SM
structure HeldK (B0 : Nat) (w : World) (p : HD) : Prop where
 cok : p.c.ok
 held : HoardI p.F (fun _ => True) w p.g p.c p.L p.il
 lo : ∀ k, p.S k → B0 ≤ k ∧ k < w.heap.size
structure ActedK (w w' : World) (p p' : HD) : Prop where
 g : p'.g = p.g
 c : p'.c = p.c
 S : ∀ k, p'.S k → p.S k ∨ w.heap.size ≤ k
 moves : Moves p.S w w'
theorem HeldK.below {B0 : Nat} {w w' : World} {p : HD} (h : HeldK B0 w p) (hb : Below w.heap.size w w') : HeldK B0 w' p :=
 ⟨h.cok, h.held.below hb, fun k hk => ⟨(h.lo k hk).1, Nat.lt_of_lt_of_le (h.lo k hk).2 hb.size⟩⟩
theorem HeldK.other {B0 : Nat} {w w' : World} {p q : HD} (h : HeldK B0 w p) (hm : Moves q.S w w') (hd : ∀ k, p.S k → ¬ q.S k) : HeldK B0 w' p :=
 ⟨h.cok, h.held.only hm.only (fun k _ hk => .inl ⟨fun hf => hd k (.inl hf) hk, fun e => hd k (.inr e) hk⟩) (h.held.model.keep (hm.kept _ (by unfold mutT; decide)) (hm.kept _ (by unfold mutT; decide)) (hm.kept _ (by unfold mutT; decide)) (hm.kept _ (by unfold mutT; decide))) (hm.kept _ (by unfold mutT; decide)) (fun b cur fr _ hh => hm.kept 3 (by unfold mutT; decide) b cur fr hh), fun k hk => ⟨(h.lo k hk).1, Nat.lt_of_lt_of_le (h.lo k hk).2 hm.size⟩⟩
theorem ActedK.refl (w : World) (p : HD) : ActedK w w p p := ⟨rfl, rfl, fun _ hk => .inl hk, Moves.refl _ _⟩
theorem ActedK.below {w w' : World} {p : HD} (hb : Below w.heap.size w w') : ActedK w w' p p := ⟨rfl, rfl, fun _ hk => .inl hk, Moves.of_below hb⟩
theorem ActedK.trans {w w' w'' : World} {p p' p'' : HD} (h : ActedK w w' p p') (h' : ActedK w' w'' p' p'') : ActedK w w'' p p'' :=
 ⟨h'.g.trans h.g, h'.c.trans h.c, fun k hk => (h'.S k hk).elim (h.S k) (fun q => .inr (Nat.le_trans h.moves.size q)), h.moves.trans (h'.moves.mono (fun k _ hk => h.S k hk))⟩
theorem HeldK.acted {B0 : Nat} {w w' : World} {p : HD} {ok : Nat → Prop} {L' : List (Int × Key)} {il' : List (List Nat)} (h : HeldK B0 w p) (hB : B0 ≤ w.heap.size) (hm : Moves (fun k => p.F k ∨ k = p.g.SM) w w') (hh : HoardI (grow p.F w) ok w' p.g p.c L' il') :
   ∃ p', HeldK B0 w' p' ∧ ActedK w w' p p' ∧ p'.L = L' ∧ p'.il = il' := by
 have hsm := h.held.sm
 refine ⟨⟨p.g, p.c, L', il', fun k => p.F k ∨ (w.heap.size ≤ k ∧ k < w'.heap.size)⟩, ⟨h.cok, ?_, ?_⟩, ⟨rfl, rfl, ?_, hm⟩, rfl, rfl⟩
 · have h1 := hh.sub (F' := fun k => p.F k ∨ (w.heap.size ≤ k ∧ k < w'.heap.size)) (fun k hk hg => hg.imp id (fun q => ⟨q, hk⟩)) (fun q => q.elim hsm.1 (fun q => by have := hsm.2; omega))
   exact h1.oks (fun hc => CellI.mono hc (fun _ _ => trivial))
 · intro k hk
   rcases hk with (q | q) | q
   · have := h.lo k (.inl q); have := hm.size; omega
   · omega
   · have := h.lo k (.inr q); have := hm.size; omega
 · intro k hk
   rcases hk with (q | q) | q
   · exact .inl (.inl q)
   · exact .inr q.1
   · exact .inl (.inr q)
end Go.Proofs.Ytlmflighkkgikaa
