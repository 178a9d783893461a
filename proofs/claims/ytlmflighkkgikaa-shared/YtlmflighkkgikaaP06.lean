import Derived.Test.YtlmflighkkgikaaP02
import Derived.Test.YtlmflighkkgikaaP05

namespace Go.Proofs.Ytlmflighkkgikaa
open Go.RowKit
attribute [local go_sem ↓] Go.wp_at_zero Go.wp_at_succ
def Mat (w : World) (v : Value) (n m : Nat) (f : Nat → Nat → Int) : Prop := ∃ vs, Row w v n vs ∧ ∀ t, t < n → Ints w (vs t) m (f t)
theorem Mat.below {w w' : World} {v : Value} {n m : Nat} {f : Nat → Nat → Int} (h : Mat w v n m f) (hb : Below w.heap.size w w') : Mat w' v n m f := by
 obtain ⟨vs, h1, h2⟩ := h
 exact ⟨vs, h1.below hb, fun t ht => (h2 t ht).below hb⟩
end Go.Proofs.Ytlmflighkkgikaa
