import Derived.WalkKit

/-
  Whole roots. Nothing of the program.
-/
namespace Go.Proofs.Ytaidjhlijadmiaa

/-- The greatest number up to k whose square is not above n. -/
def rootTo (n : Int) : Nat → Nat
  | 0 => 0
  | k + 1 => if ((k : Int) + 1) * ((k : Int) + 1) ≤ n then k + 1 else rootTo n k

/-- The greatest number whose square is not above n. -/
def rootI (n : Int) : Int := rootTo n n.toNat

theorem sq_mono {a b : Int} (h0 : 0 ≤ a) (h : a ≤ b) : a * a ≤ b * b := Int.mul_le_mul h h h0 (by omega)

theorem rootTo_le (n : Int) (k : Nat) (h0 : 0 ≤ n) : ((rootTo n k : Nat) : Int) * (rootTo n k : Nat) ≤ n := by
  induction k with
  | zero => simpa [rootTo] using h0
  | succ k ih =>
    unfold rootTo
    split
    · next h => simpa using h
    · exact ih

theorem rootTo_max (n : Int) (k : Nat) : ∀ r : Nat, r ≤ k → (r : Int) * r ≤ n → r ≤ rootTo n k := by
  induction k with
  | zero => intro r hr _; omega
  | succ k ih =>
    intro r hr h
    unfold rootTo
    split
    · exact hr
    · next hk =>
      by_cases e : r = k + 1
      · subst e; simp at h; exact absurd h hk
      · exact ih r (by omega) h

theorem rootI_nonneg (n : Int) : 0 ≤ rootI n := by unfold rootI; omega

theorem rootI_le (n : Int) (h : 0 ≤ n) : rootI n * rootI n ≤ n := rootTo_le n _ h

/-- What lies between is the root. -/
theorem rootI_eq (n r : Int) (h0 : 0 ≤ r) (h1 : r * r ≤ n) (h2 : n < (r + 1) * (r + 1)) : rootI n = r := by
  have hn : 0 ≤ n := by have := Int.mul_nonneg h0 h0; omega
  have hle := rootI_le n hn
  have h3 : rootI n ≤ r := by
    apply Int.le_of_not_gt
    intro hgt
    have := sq_mono (a := r + 1) (b := rootI n) (by omega) (by omega)
    omega
  have h4 : r ≤ rootI n := by
    have hrn : r ≤ n := by
      by_cases e : r = 0
      · omega
      · have := Int.mul_le_mul_of_nonneg_left (show (1 : Int) ≤ r by omega) h0
        rw [Int.mul_one] at this; omega
    have := rootTo_max n n.toNat r.toNat (by omega) (by rw [Int.toNat_of_nonneg h0]; exact h1)
    unfold rootI; omega
  omega

theorem rootI_pos (n : Int) (h : 1 ≤ n) : 1 ≤ rootI n := by
  have := rootTo_max n n.toNat 1 (by omega) (by simpa using h)
  unfold rootI; omega

theorem rootI_lt (n : Int) (h : 0 ≤ n) : n < (rootI n + 1) * (rootI n + 1) := by
  apply Int.lt_of_not_ge
  intro hge
  have hr := rootI_nonneg n
  have hrn : rootI n + 1 ≤ n := by
    have := Int.mul_le_mul_of_nonneg_left (show (1 : Int) ≤ rootI n + 1 by omega) (show 0 ≤ rootI n + 1 by omega)
    rw [Int.mul_one] at this; omega
  have := rootTo_max n n.toNat (rootI n + 1).toNat (by omega) (by rw [Int.toNat_of_nonneg (by omega)]; exact hge)
  have e : rootI n = rootTo n n.toNat := rfl
  omega

end Go.Proofs.Ytaidjhlijadmiaa
