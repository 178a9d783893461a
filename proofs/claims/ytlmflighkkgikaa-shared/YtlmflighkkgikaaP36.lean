import Derived.Test.YtlmflighkkgikaaP35

namespace Go.Proofs.Ytlmflighkkgikaa
open Go.RowKit
attribute [local go_sem ↓] Go.wp_at_zero Go.wp_at_succ
theorem HoardI.model {F ok : Nat → Prop} {w : World} {g : Parts} {c : Cfg} {L : List (Int × Key)} {il : List (List Nat)} (h : HoardI F ok w g c L il) : ModelT w g.M c g.vE g.vH g.bL g.oL g.cL := by
 obtain ⟨B, free, hS, _⟩ := h.ex
 obtain ⟨vI, vF, N, Mm, hl⟩ := hS.low
 exact hl.model
end Go.Proofs.Ytlmflighkkgikaa
