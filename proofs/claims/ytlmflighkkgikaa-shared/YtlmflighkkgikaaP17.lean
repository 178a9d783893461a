import Derived.BigQuiet
import Derived.Deep.QuietTactic
import Derived.Test.YtlmflighkkgikaaP09
import Derived.Test.YtlmflighkkgikaaP16

namespace Go.Proofs.Ytlmflighkkgikaa
open Go.RowKit
attribute [local go_sem ↓] Go.wp_at_zero Go.wp_at_succ
structure Raw where
 blocks : Int
 slots : Int
 layers : Int
 heads : Int
 pairs : Int
 vocab : Int
 seed : Int
def Raw.agg (r : Raw) : Value := .agg #[.int .i64 r.blocks, .int .i64 r.slots, .int .i64 r.layers, .int .i64 r.heads, .int .i64 r.pairs, .int .i64 r.vocab, .int .i64 r.seed]
def Raw.right (r : Raw) : Prop := (1 ≤ r.blocks ∧ r.blocks ≤ 32 ∧ 1 ≤ r.slots ∧ r.slots ≤ 4 ∧ 1 ≤ r.layers ∧ r.layers ≤ 2) ∧ (1 ≤ r.heads ∧ r.heads ≤ 2 ∧ 1 ≤ r.pairs ∧ r.pairs ≤ 2 ∧ 2 ≤ r.vocab ∧ r.vocab ≤ 12)
def Raw.dec (r : Raw) : Decidable r.right := by unfold Raw.right; infer_instance
def Raw.cfg (r : Raw) : Cfg := ⟨r.blocks.toNat, r.slots.toNat, r.layers.toNat, r.heads.toNat, r.pairs.toNat, r.vocab.toNat, r.seed⟩
end Go.Proofs.Ytlmflighkkgikaa
