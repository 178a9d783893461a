import Derived.Test.YtaidjhlijadmiaaP09

/-
  The program's decoder: vectors.
-/
namespace Go.Proofs.Ytaidjhlijadmiaa
open Go.RowKit

set_option maxHeartbeats 400000 in
theorem product_any (n m : Nat) (va vb : Value) (a b : Nat → Int) (w : World) (ha : IntsT w va n a) (hb : IntsT w vb m b) (hnm : n ≤ m) (hn : n ≤ 100) (ba : ∀ j, -4095 ≤ a j ∧ a j ≤ 4095) (bb : ∀ j, -4095 ≤ b j ∧ b j ≤ 4095) :
    Calls Try.prog 93 #[va, vb] w fun e w' => e = .returned (.int .i64 (sumTo (fun j => a j * b j) n)) ∧ w' = w := by
  obtain ⟨aa, ca, rfl, ha1, ha3⟩ := ha.at
  obtain ⟨ab, cb, rfl, hb1, hb3⟩ := hb.at
  clear ha hb
  go_enter Try.func93, Try.ntmps93
  go_wp2
  go_loop [5, 10] (fun s i => ∃ k : Nat, k ≤ n ∧ i = .int .i64 k ∧ s = .int .i64 (sumTo (fun j => a j * b j) k)) (fun _ i => n - (intOf i).toNat)
  case atStart => exact ⟨0, Nat.zero_le _, rfl, rfl⟩
  case round =>
    obtain ⟨k, hk, rfl, rfl⟩ := hrel
    obtain ⟨hs1, hs2⟩ := sumTo_bd (f := fun j => a j * b j) (n := k) (b := 4095 * 4095) (fun i _ => mul_bd (ba _) (bb _))
    obtain ⟨hp1, hp2⟩ := mul_bd (ba k) (bb k)
    by_cases hlt : k < n
    · obtain ⟨b1, o1, rfl, hlb1, hc1⟩ := ha3 (by omega)
      obtain ⟨b2, o2, rfl, hlb2, hc2⟩ := hb3 (by omega)
      have c1 := hc1 k hlt
      have c2 := hc2 k (by omega)
      clear hc1 hc2 ha3 hb3
      go_wp2
      go_round
      case rel => exact ⟨k + 1, by omega, by go_num, rfl⟩
      case measure => simp [intOf]; omega
    · have hkr : n = k := by omega
      subst hkr
      clear ha3 hb3
      go_wp2
      go_ret
      exact ⟨rfl, rfl⟩

set_option maxHeartbeats 400000 in
theorem dplus_any (n : Nat) (va vb : Value) (a b : Nat → Int) (w : World) (ha : IntsT w va n a) (hb : IntsT w vb n b) (hn : n ≤ 100) (ba : ∀ j, -4095 ≤ a j ∧ a j ≤ 4095) (bb : ∀ j, -4095 ≤ b j ∧ b j ≤ 4095) :
    Calls Try.prog 84 #[va, vb] w fun e w' => ∃ r, e = .returned r ∧ IntsT w' r n (plusOf a b) ∧ Below w.heap.size w w' := by
  obtain ⟨aa, ca, rfl, ha1, ha3⟩ := ha.at
  obtain ⟨ab, cb, rfl, hb1, hb3⟩ := hb.at
  clear ha hb
  have hmk := run_make_row' (P := Try.prog) 36 3 (.int .i64 0) 8 Try.underlying36 Try.info_int rfl .i64 .i64 n (by omega) (by omega)
  go_enter Try.func84, Try.ntmps84
  go_wp2
  clear hmk
  go_loopw [13] (fun i wr => ∃ k : Nat, k ≤ n ∧ i = .int .i64 k ∧ wr.rowIs w.heap.size 3 n (fun j => .int .i64 (filled (plusOf a b) k j)) ∧ Below w.heap.size w wr) (fun i _ => n - (intOf i).toNat)
  case atStart => exact ⟨0, Nat.zero_le _, rfl, fill_start w n _, (Below.refl _ _).alloc (Nat.le_refl _) _⟩
  case round =>
    obtain ⟨k, hk, rfl, hrow, hbel⟩ := hrel
    by_cases hlt : k < n
    · obtain ⟨b1, o1, rfl, hlb1, hc1⟩ := ha3 (by omega)
      obtain ⟨b2, o2, rfl, hlb2, hc2⟩ := hb3 (by omega)
      have c1 := (hbel.cell (p := ⟨b1, o1 + k, none⟩) hlb1).trans (hc1 k hlt)
      have c2 := (hbel.cell (p := ⟨b2, o2 + k, none⟩) hlb2).trans (hc2 k hlt)
      have c3 := hrow.cell hlt
      have c4 := hrow.frozen k
      obtain ⟨x1, x2⟩ := ba k
      obtain ⟨y1, y2⟩ := bb k
      clear hc1 hc2 ha3 hb3
      go_wp2_with (go_at_call 94; refine Calls_use (cut_any _ _) ?_)
      go_roundw
      case rel => exact ⟨k + 1, by omega, by go_num, fill_step hrow rfl, hbel.setCell (Nat.le_refl _) _⟩
      case measure => simp [intOf]; omega
    · have hkr : n = k := by omega
      subst hkr
      clear ha3 hb3
      go_wp2
      go_ret
      exact ⟨_, rfl, fill_done hrow (by unfold maxLen; omega), hbel⟩




end Go.Proofs.Ytaidjhlijadmiaa
