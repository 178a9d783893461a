import Derived.Test.YtlmflighkkgikaaP07

namespace Go.Proofs.Ytlmflighkkgikaa
open Go.RowKit
theorem kpick_lt {c n : Int} (h : 0 < n) : 0 ≤ pickI c n ∧ pickI c n < n := by
 unfold pickI
 split
 · rw [Int.tmod_eq_emod_of_nonneg (by omega)]
   exact ⟨Int.emod_nonneg _ (by omega), Int.emod_lt_of_pos _ h⟩
 · rw [Int.tmod_eq_emod_of_nonneg (by omega)]
   exact ⟨Int.emod_nonneg _ (by omega), Int.emod_lt_of_pos _ h⟩
theorem hkpick_any (c n : Int) (w : World) (hc : -9223372036854775808 ≤ c ∧ c ≤ 9223372036854775807) (h1 : 1 ≤ n) (h2 : n ≤ 40) :
   Calls Try.prog 10 #[.int .i64 c, .int .i64 n] w fun e w' => e = .returned (.int .i64 (pickI c n)) ∧ w' = w := by
 obtain ⟨ha, hb⟩ := hc
 go_enter Try.func10, Try.ntmps10
 go_wp2
 all_goals go_ret
 all_goals refine ⟨ret_int ?_, rfl⟩
 all_goals unfold pickI
 · rw [if_pos ‹_›, Int.neg_tmod]
 · rw [if_neg (by omega), Int.tmod_eq_emod_of_nonneg (by omega)]
theorem hkblocks_any (n s : Nat) (w : World) (hn : n ≤ 1000) (hs : 1 ≤ s ∧ s ≤ 4) :
   Calls Try.prog 20 #[.int .i64 n, .int .i64 s] w fun e w' => e = .returned (.int .i64 ((n + s - 1) / s : Nat)) ∧ w' = w := by
 obtain ⟨hs1, hs2⟩ := hs
 go_enter Try.func20, Try.ntmps20
 go_wp2
 go_ret
 refine ⟨ret_int ?_, rfl⟩
 have e : ((n : Int) + s - 1) = ((n + s - 1 : Nat) : Int) := by omega
 rw [e]
 try rw [Int.tdiv_eq_ediv_of_nonneg (by omega)]
 rfl
set_option maxHeartbeats 400000 in
theorem hksame_any (n m : Nat) (va vb : Value) (a b : Nat → Int) (w : World) (ha : Ints w va n a) (hb : Ints w vb m b) :
   Calls Try.prog 25 #[va, vb] w fun e w' => e = .returned (.bool (sameI n m a b)) ∧ ∃ q, w' = w.drewN q := by
 obtain ⟨aa, ca, rfl, ha1, ha2, ha3⟩ := ha
 obtain ⟨ab, cb, rfl, hb1, hb2, hb3⟩ := hb
 unfold maxLen at ha2 hb2
 by_cases hnm : n = m
 · subst hnm
   have hne : ((n : Int) != (n : Int)) = false := by simp
   go_enter Try.func25, Try.ntmps25
   go_wp2
   go_loopw [5] (fun i wr => ∃ k : Nat, k ≤ n ∧ i = .int .i64 k ∧ Hid (∀ j, j < k → a j = b j) ∧ ∃ q, wr = w.drewN q) (fun i _ => n - (intOf i).toNat)
   case atStart => exact ⟨0, Nat.zero_le _, rfl, fun j hj => absurd hj (by omega), 0, rfl⟩
   case round =>
     obtain ⟨k, hk, rfl, Hs, q, rfl⟩ := hrel
     by_cases hlt : k < n
     · obtain ⟨b1, o1, rfl, hlb1, hc1⟩ := ha3 (by omega)
       obtain ⟨b2, o2, rfl, hlb2, hc2⟩ := hb3 (by omega)
       have c1 := hc1 k hlt
       have c2 := hc2 k hlt
       clear hc1 hc2 ha3 hb3
       by_cases heq : a k = b k
       · have hq : (a k != b k) = false := by simp [heq]
         have Hq := hide heq
         clear heq
         go_wp2
         go_quiet (fail)
         go_wp2
         go_roundw
         case rel => exact ⟨k + 1, by omega, by go_num, fun j hj => by by_cases e : j = k; (subst e; exact Hq.out); exact Hs.out j (by omega), _, rfl⟩
         case measure => simp [intOf]; omega
       · have hq : (a k != b k) = true := by simp [heq]
         have Hq := hide heq
         clear heq
         go_wp2
         go_quiet (fail)
         go_wp2
         go_ret
         exact ⟨ret_bool (by unfold sameI; rw [sameTo_false a b n k hlt Hq.out]; simp), _, World.drewN_drewN _ _ _⟩
     · have hkr : n = k := by omega
       subst hkr
       clear ha3 hb3
       go_wp2
       go_ret
       exact ⟨ret_bool (by unfold sameI; rw [(sameTo_iff a b n).2 Hs.out]; simp), _, rfl⟩
 · have hne : ((n : Int) != (m : Int)) = true := by simp; omega
   clear ha3 hb3
   go_enter Try.func25, Try.ntmps25
   go_wp2
   go_ret
   exact ⟨ret_bool (sameI_ne n m a b hnm).symm, 0, rfl⟩
end Go.Proofs.Ytlmflighkkgikaa
