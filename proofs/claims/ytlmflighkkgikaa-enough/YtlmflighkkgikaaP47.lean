import Derived.Test.YtlmflighkkgikaaP43
import Derived.Test.YtlmflighkkgikaaP46

namespace Go.Proofs.Ytlmflighkkgikaa
open Go.RowKit
attribute [local go_sem ↓] Go.wp_at_zero Go.wp_at_succ
theorem sameI_refl (n : Nat) (f : Nat → Int) : sameI n n f f = true := by
 unfold sameI
 rw [(sameTo_iff f f n).2 (fun _ _ => rfl)]
 simp
theorem ksame {w : World} {va vb : Value} {n : Nat} {f : Nat → Int} (ha : IntsT w va n f) (hb : IntsT w vb n f) :
   Calls Try.prog 25 #[va, vb] w fun e w' => e = .returned (.bool true) ∧ Below w.heap.size w w' := by
 refine (hksame_any n n va vb f f w ha.ints hb.ints).mono ?_
 rintro e w' ⟨rfl, q, rfl⟩
 rw [sameI_refl]
 exact ⟨rfl, below_drewN (Below.refl _ _) q⟩
theorem IntsT.bel {w w' : World} {v : Value} {n : Nat} {g : Nat → Int} (h : IntsT w v n g) (hb : Below w.heap.size w w') : IntsT w' v n g := h.keep (KeepT.of_below hb)
end Go.Proofs.Ytlmflighkkgikaa
