import Derived.Test.YtlmflighkkgikaaP44
import Derived.Test.YtlmflighkkgikaaP47

namespace Go.Proofs.Ytlmflighkkgikaa
open Go.RowKit
attribute [local go_sem ↓] Go.wp_at_zero Go.wp_at_succ
theorem sameI_refl (n : Nat) (f : Nat → Int) : sameI n n f f = true := by
 unfold sameI
 rw [(sameTo_iff f f n).2 (fun _ _ => rfl)]
 simp
theorem IntsT.bel {w w' : World} {v : Value} {n : Nat} {g : Nat → Int} (h : IntsT w v n g) (hb : Below w.heap.size w w') : IntsT w' v n g := h.keep (KeepT.of_below hb)
end Go.Proofs.Ytlmflighkkgikaa
