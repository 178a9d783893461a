import Derived.Test.YtaidjhlijadmiaaProg
import Derived.WalkKit
import Derived.WalkSpells
import Derived.WalkLawsBesides

/-
  The small functions over integers, by their contracts.
-/
namespace Go.Proofs.Ytaidjhlijadmiaa
open Go.RowKit

/-- To cut a number. -/
def cutI (x : Int) : Int := if 4095 < x then 4095 else if x < -4095 then -4095 else x

theorem cutI_bd (x : Int) : -4095 ≤ cutI x ∧ cutI x ≤ 4095 := by unfold cutI; omega

theorem ret_int {k : IntKind} {a b : Int} (h : a = b) : Ending.returned (.int k a) = .returned (.int k b) := by rw [h]

theorem refcut_any (x : Int) (w : World) :
    Calls Try.prog 71 #[.int .i64 x] w fun e w' => e = .returned (.int .i64 (cutI x)) ∧ w' = w := by
  go_enter Try.func71, Try.ntmps71
  go_wp2
  all_goals go_ret
  all_goals refine ⟨ret_int ?_, rfl⟩
  all_goals (unfold cutI; omega)

theorem cut_any (x : Int) (w : World) :
    Calls Try.prog 94 #[.int .i64 x] w fun e w' => e = .returned (.int .i64 (cutI x)) ∧ w' = w := by
  go_enter Try.func94, Try.ntmps94
  go_wp2
  all_goals go_ret
  all_goals refine ⟨ret_int ?_, rfl⟩
  all_goals (unfold cutI; omega)


theorem mark_any (i : Int) (w : World) (h0 : 0 ≤ i) (h1 : i ≤ 9000000000000000000) :
    Calls Try.prog 29 #[.int .i64 i] w fun e w' => e = .returned (.int .i64 (-700000000 - i)) ∧ w' = w := by
  go_enter Try.func29, Try.ntmps29
  go_wp2
  go_ret
  exact ⟨rfl, rfl⟩

theorem num_any (i : Int) (w : World) :
    Calls Try.prog 24 #[.int .i64 i] w fun e w' => e = .returned (.int .i64 i) ∧ w' = w := by
  go_enter Try.func24, Try.ntmps24
  go_wp2
  go_ret
  exact ⟨rfl, rfl⟩

/-- Which of n things a raw number speaks of. -/
def pickI (c : Int) (n : Int) : Int := if c < 0 then (-(c + 1)).tmod n else c.tmod n

theorem pick_any (c n : Int) (w : World) (hc : -9223372036854775808 ≤ c ∧ c ≤ 9223372036854775807) (h1 : 1 ≤ n) (h2 : n ≤ 2) :
    Calls Try.prog 8 #[.int .i64 c, .int .i64 n] w fun e w' => e = .returned (.int .i64 (pickI c n)) ∧ w' = w := by
  obtain ⟨ha, hb⟩ := hc
  go_enter Try.func8, Try.ntmps8
  go_wp2
  all_goals go_ret
  all_goals refine ⟨ret_int ?_, rfl⟩
  all_goals unfold pickI
  · rw [if_pos ‹_›, Int.neg_tmod]
  · rw [if_neg (by omega), Int.tmod_eq_emod_of_nonneg (by omega)]

theorem within_any (n a b : Int) (w : World) :
    Calls Try.prog 59 #[.int .i64 n, .int .i64 a, .int .i64 b] w fun e w' => e = .returned (.bool (decide (a ≤ n ∧ n ≤ b))) ∧ w' = w := by
  go_enter Try.func59, Try.ntmps59
  go_wp2
  all_goals go_ret
  all_goals refine ⟨?_, rfl⟩
  all_goals simp [*]
  all_goals omega

end Go.Proofs.Ytaidjhlijadmiaa
