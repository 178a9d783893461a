import Derived.Test.YtlmflighkkgikaaP03

namespace Go.Proofs.Ytlmflighkkgikaa
open Go.RowKit
def turnBy (pairs p i : Nat) : Nat := p * (i / 2 % pairs + 1) % 4
def turnOf (pairs p : Nat) (v : Nat → Int) (i : Nat) : Int :=
 if turnBy pairs p i = 0 then v i
 else if turnBy pairs p i = 1 then (if i % 2 = 0 then -(v (i + 1)) else v (i - 1))
 else if turnBy pairs p i = 2 then -(v i)
 else (if i % 2 = 0 then v (i + 1) else -(v (i - 1)))
theorem turnBy_two (pairs p k : Nat) : turnBy pairs p (2 * k) = p * (k % pairs + 1) % 4 ∧ turnBy pairs p (2 * k + 1) = p * (k % pairs + 1) % 4 := by
 unfold turnBy
 rw [show 2 * k / 2 = k by omega, show (2 * k + 1) / 2 = k by omega]; exact ⟨rfl, rfl⟩
theorem turnOf_bd (pairs p : Nat) (v : Nat → Int) (bv : ∀ j, -4095 ≤ v j ∧ v j ≤ 4095) (i : Nat) : -4095 ≤ turnOf pairs p v i ∧ turnOf pairs p v i ≤ 4095 := by
 have h1 := bv i
 have h2 := bv (i + 1)
 have h3 := bv (i - 1)
 unfold turnOf
 split
 · exact h1
 · split
   · split <;> omega
   · split
     · omega
     · split <;> omega
theorem two_new (w : World) (x y : Value) (t : TypeId) : ∀ (j : Nat) (u : Value), [x, y][j]? = some u → (w.alloc (.cells #[x, y] t)).cell? ((⟨w.heap.size, 0, none⟩ : Addr).add j) = some u := by
 intro j u hj
 match j, hj with
 | 0, hj => simp at hj; subst hj; simp [Addr.add]
 | 1, hj => simp at hj; subst hj; simp [Addr.add]
theorem two_int (x y : Int) : ∀ u ∈ [Value.int .i64 x, Value.int .i64 y], u.oneCell' = true := by
 intro u hu; simp at hu; rcases hu with rfl | rfl <;> rfl
theorem range_map_two {α : Type} (f : Nat → α) (n : Nat) : (List.range (n + 2)).map f = (List.range n).map f ++ [f n, f (n + 1)] := by
 rw [range_map_succ, range_map_succ]; simp
end Go.Proofs.Ytlmflighkkgikaa
