import Derived.Test.YtlmflighkkgikaaP12

namespace Go.Proofs.Ytlmflighkkgikaa
open Go.RowKit
attribute [local go_sem ↓] Go.wp_at_zero Go.wp_at_succ
theorem TokRow.grown {w w' : World} {v : Value} {l : List (List Nat)} {r : Option Nat} (h : TokRow w v l) (hg : w.grownBy w' r) (hne : ∀ a n c, v = .slice (some a) n c → r ≠ some a.block) (hk : KeepT 3 w w') : TokRow w' v l := by
 obtain ⟨vs, ⟨a, c, rfl, h1, h2, h3⟩, h4⟩ := h
 refine ⟨vs, ⟨a, c, rfl, h1, h2, fun h0 => ?_⟩, fun i hi => (h4 i hi).keep hk⟩
 obtain ⟨b, off, rfl, hb, hc⟩ := h3 h0
 refine ⟨b, off, rfl, Nat.lt_of_lt_of_le hb hg.size, fun j hj => hg.cell (hc j hj) (fun e => hne _ _ _ rfl e.symm)⟩
end Go.Proofs.Ytlmflighkkgikaa
