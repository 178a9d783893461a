import Derived.Test.YtlmflighkkgikaaP03
import Derived.Test.YtlmflighkkgikaaP04

namespace Go.Proofs.Ytlmflighkkgikaa
open Go.RowKit
attribute [local go_sem ↓] Go.wp_at_zero Go.wp_at_succ
structure Cfg where
 blocks : Nat
 slots : Nat
 layers : Nat
 heads : Nat
 pairs : Nat
 vocab : Nat
 seed : Int
structure Cfg.ok (c : Cfg) : Prop where
 blocks : 1 ≤ c.blocks ∧ c.blocks ≤ 32
 slots : 1 ≤ c.slots ∧ c.slots ≤ 4
 layers : 1 ≤ c.layers ∧ c.layers ≤ 2
 heads : 1 ≤ c.heads ∧ c.heads ≤ 2
 pairs : 1 ≤ c.pairs ∧ c.pairs ≤ 2
 vocab : 2 ≤ c.vocab ∧ c.vocab ≤ 12
 seed : -9223372036854775808 ≤ c.seed ∧ c.seed ≤ 9223372036854775807
def Cfg.width (c : Cfg) : Nat := 2 * c.heads * c.pairs
def Cfg.seedU (c : Cfg) : Int := c.seed % 18446744073709551616
def Cfg.weight (c : Cfg) (n : Nat) : Int := weightI c.seedU n
def Cfg.many (c : Cfg) : Nat := 2 * c.vocab * c.width + c.layers * 8 * c.width * c.width
def Cfg.cells (c : Cfg) : List Value := [.int .i64 c.blocks, .int .i64 c.slots, .int .i64 c.layers, .int .i64 c.heads, .int .i64 c.pairs, .int .i64 c.vocab, .int .i64 c.seed]
theorem Cfg.width_bd {c : Cfg} (h : c.ok) : 2 ≤ c.width ∧ c.width ≤ 8 := by
 have h1 := h.heads
 have h2 := h.pairs
 unfold Cfg.width
 have a : c.heads = 1 ∨ c.heads = 2 := by omega
 rcases a with a | a <;> rw [a] <;> omega
theorem alloc_two (w : World) (o1 o2 : Obj) : ((w.alloc o1).alloc o2).heap[w.heap.size + 1]? = some o2 := by
 have := alloc_new (w.alloc o1) o2
 simpa using this
end Go.Proofs.Ytlmflighkkgikaa
