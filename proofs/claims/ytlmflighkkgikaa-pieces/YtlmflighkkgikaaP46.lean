import Derived.Test.YtlmflighkkgikaaP45

namespace Go.Proofs.Ytlmflighkkgikaa
open Go.RowKit
attribute [local go_sem ↓] Go.wp_at_zero Go.wp_at_succ
structure ActD where
 K : Int
 A : Int
 B : Int
 n : Nat
 f : Nat → Int
 vT : Value
def ActD.val (a : ActD) : Value := .agg #[.int .i64 a.K, .int .i64 a.A, .int .i64 a.B, a.vT]
structure ActD.ok (a : ActD) (w : World) : Prop where
 K : kI a.K
 A : kI a.A
 B : kI a.B
 t : Ints w a.vT a.n a.f
 f : ∀ j, j < a.n → kI (a.f j)
theorem pick_tok {x : Int} {v : Nat} (hv : 1 ≤ v) : ¬ badTok v (pickI x v) := by
 have := kpick_lt (c := x) (n := v) (by omega)
 unfold badTok
 omega
section
variable {B0 : Nat} {w : World} {p : HD} {a : ActD}
end
end Go.Proofs.Ytlmflighkkgikaa
