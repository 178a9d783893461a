import Derived.Test.YtaidjhlijadmiaaP14
import Derived.Test.YtaidjhlijadmiaaP20

/-
  The program's decoder: vectors and matrices.
-/
namespace Go.Proofs.Ytaidjhlijadmiaa
open Go.RowKit

/-- A slice of n rows of m integers, in blocks of integers. -/
def MatT (w : World) (v : Value) (n m : Nat) (f : Nat → Nat → Int) : Prop := ∃ vs, Row w v n vs ∧ ∀ t, t < n → IntsT w (vs t) m (f t)

theorem MatT.below {w w' : World} {v : Value} {n m : Nat} {f : Nat → Nat → Int} (h : MatT w v n m f) (hb : Below w.heap.size w w') : MatT w' v n m f := by
  obtain ⟨vs, h1, h2⟩ := h
  exact ⟨vs, h1.below hb, fun t ht => (h2 t ht).keep (KeepT.of_below hb)⟩

set_option maxHeartbeats 400000 in
theorem nbz_any (n : Nat) (va : Value) (a : Nat → Int) (w : World) (ha : IntsT w va n a) (hn : n ≤ 100) :
    Calls Try.prog 86 #[va] w fun e w' => ∃ r, e = .returned r ∧ IntsT w' r n (fun i => notNeg (a i)) ∧ Below w.heap.size w w' := by
  obtain ⟨aa, ca, rfl, ha1, ha3⟩ := ha.at
  clear ha
  have hmk := run_make_row' (P := Try.prog) 36 3 (.int .i64 0) 8 Try.underlying36 Try.info_int rfl .i64 .i64 n (by omega) (by omega)
  go_enter Try.func86, Try.ntmps86
  go_wp2
  clear hmk
  go_loopw [11] (fun i wr => ∃ k : Nat, k ≤ n ∧ i = .int .i64 k ∧ wr.rowIs w.heap.size 3 n (fun j => .int .i64 (filled (fun i => notNeg (a i)) k j)) ∧ Below w.heap.size w wr) (fun i _ => n - (intOf i).toNat)
  case atStart => exact ⟨0, Nat.zero_le _, rfl, fill_start w n _, (Below.refl _ _).alloc (Nat.le_refl _) _⟩
  case round =>
    obtain ⟨k, hk, rfl, hrow, hbel⟩ := hrel
    by_cases hlt : k < n
    · obtain ⟨b1, o1, rfl, hlb1, hc1⟩ := ha3 (by omega)
      have c1 := (hbel.cell (p := ⟨b1, o1 + k, none⟩) hlb1).trans (hc1 k hlt)
      have c3 := hrow.cell hlt
      have c4 := hrow.frozen k
      clear hc1 ha3
      go_wp2
      all_goals go_roundw
      all_goals try (case measure => simp [intOf]; omega)
      all_goals exact ⟨k + 1, by omega, by go_num, fill_step hrow (by unfold notNeg; omega), hbel.setCell (Nat.le_refl _) _⟩
    · have hkr : n = k := by omega
      subst hkr
      clear ha3
      go_wp2
      go_ret
      exact ⟨_, rfl, fill_done hrow (by unfold maxLen; omega), hbel⟩

set_option maxHeartbeats 400000 in
theorem emb_any (n : Nat) (va : Value) (a : Nat → Int) (w : World) (ha : IntsT w va n a) (hn : n ≤ 100) (ba : ∀ j, -8 ≤ a j ∧ a j ≤ 8) :
    Calls Try.prog 79 #[va] w fun e w' => ∃ r, e = .returned r ∧ IntsT w' r n (fun i => cutI (64 * a i)) ∧ Below w.heap.size w w' := by
  obtain ⟨aa, ca, rfl, ha1, ha3⟩ := ha.at
  clear ha
  have hmk := run_make_row' (P := Try.prog) 36 3 (.int .i64 0) 8 Try.underlying36 Try.info_int rfl .i64 .i64 n (by omega) (by omega)
  go_enter Try.func79, Try.ntmps79
  go_wp2
  clear hmk
  go_loopw [11] (fun i wr => ∃ k : Nat, k ≤ n ∧ i = .int .i64 k ∧ wr.rowIs w.heap.size 3 n (fun j => .int .i64 (filled (fun i => cutI (64 * a i)) k j)) ∧ Below w.heap.size w wr) (fun i _ => n - (intOf i).toNat)
  case atStart => exact ⟨0, Nat.zero_le _, rfl, fill_start w n _, (Below.refl _ _).alloc (Nat.le_refl _) _⟩
  case round =>
    obtain ⟨k, hk, rfl, hrow, hbel⟩ := hrel
    by_cases hlt : k < n
    · obtain ⟨b1, o1, rfl, hlb1, hc1⟩ := ha3 (by omega)
      have c1 := (hbel.cell (p := ⟨b1, o1 + k, none⟩) hlb1).trans (hc1 k hlt)
      have c3 := hrow.cell hlt
      have c4 := hrow.frozen k
      obtain ⟨x1, x2⟩ := ba k
      clear hc1 ha3
      go_wp2
      go_roundw
      case rel => exact ⟨k + 1, by omega, by go_num, fill_step hrow (by unfold cutI; omega), hbel.setCell (Nat.le_refl _) _⟩
      case measure => simp [intOf]; omega
    · have hkr : n = k := by omega
      subst hkr
      clear ha3
      go_wp2
      go_ret
      exact ⟨_, rfl, fill_done hrow (by unfold maxLen; omega), hbel⟩

/-- A matrix times a vector. -/
def mulRow (m : Nat) (f : Nat → Nat → Int) (v : Nat → Int) (i : Nat) : Int := cutI ((sumTo (fun j => f i j * v j) m).tdiv 8)

set_option maxHeartbeats 400000 in
theorem dtimes_own (n m : Nat) (vm vv : Value) (f : Nat → Nat → Int) (v : Nat → Int) (w : World) (hmat : MatT w vm n m f) (hv : IntsT w vv m v) (hn : n ≤ 100) (hm : m ≤ 100) (bf : ∀ i j, -8 ≤ f i j ∧ f i j ≤ 8) (bv : ∀ j, -4095 ≤ v j ∧ v j ≤ 4095) :
    Calls Try.prog 82 #[vm, vv] w fun e w' => e = .returned (.slice (some ⟨w.heap.size, 0, none⟩) n n) ∧ w'.rowIs w.heap.size 3 n (fun j => .int .i64 (mulRow m f v j)) ∧ Below w.heap.size w w' := by
  obtain ⟨vs, ⟨aa, ca, rfl, ha1, _, ha3⟩, hrows⟩ := hmat
  have hmk := run_make_row' (P := Try.prog) 36 3 (.int .i64 0) 8 Try.underlying36 Try.info_int rfl .i64 .i64 n (by omega) (by omega)
  go_enter Try.func82, Try.ntmps82
  go_wp2
  clear hmk
  go_loopw [13] (fun i wr => ∃ k : Nat, k ≤ n ∧ i = .int .i64 k ∧ wr.rowIs w.heap.size 3 n (fun j => .int .i64 (filled (mulRow m f v) k j)) ∧ Below w.heap.size w wr) (fun i _ => n - (intOf i).toNat)
  case atStart => exact ⟨0, Nat.zero_le _, rfl, fill_start w n _, (Below.refl _ _).alloc (Nat.le_refl _) _⟩
  case round =>
    obtain ⟨k, hk, rfl, hrow, hbel⟩ := hrel
    by_cases hlt : k < n
    · obtain ⟨b1, o1, rfl, hlb1, hc1⟩ := ha3 (by omega)
      have c1 := (hbel.cell (p := ⟨b1, o1 + k, none⟩) hlb1).trans (hc1 k hlt)
      have c3 := hrow.cell hlt
      have c4 := hrow.frozen k
      have hr := (hrows k hlt).keep (KeepT.of_below hbel)
      have hv' := hv.keep (KeepT.of_below hbel)
      clear hc1 ha3 hrows
      go_wp2_with fail
      obtain ⟨hs1, hs2⟩ := sumTo_bd (f := fun j => f k j * v j) (n := m) (b := 8 * 4095) (fun i _ => mul_bd (bf _ _) (bv _))
      have hd := tdiv_bd (s := sumTo (fun j => f k j * v j) m) (c := 8) (b := 3276000) (by omega) ⟨by omega, by omega⟩
      obtain ⟨hd1, hd2⟩ := hd
      refine Calls_use (product_any m m (vs k) vv (f k) v _ hr hv' (Nat.le_refl _) hm (fun j => by have := bf k j; omega) bv) ?_
      go_wp2_with fail
      refine Calls_use (cut_any _ _) ?_
      go_wp2
      go_roundw
      case rel => exact ⟨k + 1, by omega, by go_num, fill_step hrow rfl, hbel.setCell (Nat.le_refl _) _⟩
      case measure => simp [intOf]; omega
    · have hkr : n = k := by omega
      subst hkr
      clear ha3 hrows
      go_wp2
      go_ret
      exact ⟨rfl, hrow.congr (fun j hj => by simp only [filled, if_pos hj]), hbel⟩

theorem dtimes_any (n m : Nat) (vm vv : Value) (f : Nat → Nat → Int) (v : Nat → Int) (w : World) (hmat : MatT w vm n m f) (hv : IntsT w vv m v) (hn : n ≤ 100) (hm : m ≤ 100) (bf : ∀ i j, -8 ≤ f i j ∧ f i j ≤ 8) (bv : ∀ j, -4095 ≤ v j ∧ v j ≤ 4095) :
    Calls Try.prog 82 #[vm, vv] w fun e w' => ∃ r, e = .returned r ∧ IntsT w' r n (mulRow m f v) ∧ Below w.heap.size w w' :=
  (dtimes_own n m vm vv f v w hmat hv hn hm bf bv).mono (by
    rintro e w' ⟨rfl, hr, hb⟩
    obtain ⟨c, h1, h2, h3⟩ := hr
    exact ⟨_, rfl, ⟨_, n, rfl, Nat.le_refl _, by unfold maxLen; omega, fun _ => ⟨w.heap.size, 0, c, (0, 0), rfl, h1, fun j hj => by simpa using h3 j hj⟩⟩, hb⟩)

end Go.Proofs.Ytaidjhlijadmiaa

/-
  The program's root: sort.Search over a closure.
-/
namespace Go.Proofs.Ytaidjhlijadmiaa
open Go.RowKit

theorem root1_any (m n : Int) (b : Nat) (w : World) (hb : w.cell? ⟨b, 0, none⟩ = some (.int .i64 n)) (h0 : 0 ≤ m) (h1 : m ≤ 1700000000) :
    Calls Try.prog 98 #[.int .i64 m, .pointer (some ⟨b, 0, none⟩)] w fun e w' => e = .returned (.bool (decide (n < (m + 1) * (m + 1)))) ∧ w' = w := by
  have hs : 0 ≤ (m + 1) * (m + 1) := Int.mul_nonneg (by omega) (by omega)
  have hs2 : (m + 1) * (m + 1) ≤ 1700000001 * 1700000001 := Int.mul_le_mul (by omega) (by omega) (by omega) (by omega)
  go_enter Try.func98, Try.ntmps98
  go_wp2
  go_ret
  exact ⟨rfl, rfl⟩

set_option maxHeartbeats 400000 in
theorem search_root (n : Int) (b : Nat) (w : World) (hb : w.cell? ⟨b, 0, none⟩ = some (.int .i64 n)) (h0 : 1 ≤ n) (h1 : n ≤ 1700000000) :
    Calls Try.prog 97 #[.int .i64 n, .func (.func 98) #[] #[.pointer (some ⟨b, 0, none⟩)]] w fun e w' => e = .returned (.int .i64 (rootI n)) ∧ w' = w := by
  go_enter Try.func97, Try.ntmps97
  go_wp2
  go_loop [5, 6] (fun a c => ∃ i j : Int, a = .int .i64 i ∧ c = .int .i64 j ∧ 0 ≤ i ∧ i ≤ j ∧ j ≤ n ∧ i * i ≤ n ∧ n < (j + 1) * (j + 1)) (fun a c => (intOf c - intOf a).toNat)
  case atStart => exact ⟨0, n, rfl, rfl, by omega, by omega, by omega, by omega, by have := sq_mono (a := 1) (b := n + 1) (by omega) (by omega); have := Int.mul_le_mul_of_nonneg_left (show (1 : Int) ≤ n + 1 by omega) (show 0 ≤ n + 1 by omega); rw [Int.mul_one] at this; omega⟩
  case round =>
    obtain ⟨i, j, rfl, rfl, hi, hij, hj, hii, hjj⟩ := hrel
    by_cases hlt : i < j
    · go_wp2_with fail
      refine Calls_use (root1_any _ n b _ hb (by omega) (by omega)) ?_
      by_cases hq : n < ((i + j) / 2 + 1) * ((i + j) / 2 + 1)
      · have hq' : decide (n < ((i + j) / 2 + 1) * ((i + j) / 2 + 1)) = true := by simpa using hq
        rw [hq']
        have Hq := hide hq
        clear hq hq'
        go_wp2
        go_round
        case rel => exact ⟨i, (i + j) / 2, rfl, rfl, by omega, by omega, by omega, hii, Hq.out⟩
        case measure => simp [intOf]; omega
      · have hq' : decide (n < ((i + j) / 2 + 1) * ((i + j) / 2 + 1)) = false := by simpa using hq
        rw [hq']
        have Hq := hide (Int.not_lt.1 hq)
        clear hq hq'
        go_wp2
        go_round
        case rel => exact ⟨(i + j) / 2 + 1, j, rfl, rfl, by omega, by omega, by omega, Hq.out, hjj⟩
        case measure => simp [intOf]; omega
    · have e : j = i := by omega
      subst e
      have HR := hide (rootI_eq n j hi hii hjj)
      go_wp2
      go_ret
      exact ⟨ret_int HR.out.symm, rfl⟩

theorem root_any (n : Int) (w : World) (h0 : 1 ≤ n) (h1 : n ≤ 1700000000) :
    Calls Try.prog 92 #[.int .i64 n] w fun e w' => e = .returned (.int .i64 (rootI n)) ∧ w' = w.alloc (.cells #[.int .i64 n] 3) := by
  have hmf : ∀ (fn : Fn) (first cap : Array Value) (w : World), (Instr.makeFunc fn first cap).run Try.prog w = .ok (.func fn first cap) w := fun _ _ _ _ => rfl
  go_enter Try.func92, Try.ntmps92
  go_wp2_with fail
  refine Calls_use (search_root n w.heap.size _ (by simp) h0 h1) ?_
  go_wp2
  go_ret
  exact ⟨rfl, rfl⟩

set_option maxHeartbeats 400000 in
theorem dnorm_any (n : Nat) (va : Value) (v : Nat → Int) (w : World) (ha : IntsT w va n v) (hn1 : 1 ≤ n) (hn : n ≤ 100) (bv : ∀ j, -4095 ≤ v j ∧ v j ≤ 4095) :
    Calls Try.prog 80 #[va] w fun e w' => ∃ r, e = .returned r ∧ IntsT w' r n (normOf n v) ∧ Below w.heap.size w w' := by
  obtain ⟨aa, ca, rfl, ha1, ha3⟩ := ha.at
  obtain ⟨b1, o1, rfl, hlb1, hc1⟩ := ha3 (by omega)
  have Hc1 := hide hc1
  clear hc1 ha3
  have hmk := run_make_row' (P := Try.prog) 36 3 (.int .i64 0) 8 Try.underlying36 Try.info_int rfl .i64 .i64 n (by omega) (by omega)
  obtain ⟨hs1, hs2⟩ := sq_sum n n v bv (Nat.le_refl _) hn
  have hd1 : 0 ≤ (sumTo (fun j => v j * v j) n) / n := Int.ediv_nonneg hs1 (by omega)
  have hd2 : (sumTo (fun j => v j * v j) n) / n ≤ 1676902500 := Int.le_trans (Int.ediv_le_self _ hs1) hs2
  have hr1 := rootI_pos ((sumTo (fun j => v j * v j) n) / n + 1) (by omega)
  have HR := hide (show ∀ i, cutI ((v i * 256).tdiv (rootI ((sumTo (fun j => v j * v j) n) / n + 1))) = normOf n v i from fun i => by
        unfold normOf; rw [Int.tdiv_eq_ediv_of_nonneg hs1])
  go_enter Try.func80, Try.ntmps80
  go_wp2_with fail
  refine Calls_use (product_any n n _ _ v v _ ha ha (Nat.le_refl _) hn bv bv) ?_
  go_wp2_with fail
  refine (root_any _ _ (by omega) (by omega)).mono ?_
  rintro e w1 ⟨rfl, rfl⟩
  generalize rootI ((sumTo (fun j => v j * v j) n) / n + 1) = R at hr1 HR ⊢
  clear hs1 hs2
  go_wp2
  clear hmk
  go_loopw [20] (fun i wr => ∃ k : Nat, k ≤ n ∧ i = .int .i64 k ∧ wr.rowIs (w.heap.size + 1) 3 n (fun j => .int .i64 (filled (normOf n v) k j)) ∧ Below w.heap.size w wr) (fun i _ => n - (intOf i).toNat)
  case atStart =>
    refine ⟨0, Nat.zero_le _, rfl, ?_, ((Below.refl _ _).alloc (Nat.le_refl _) _).alloc (by simp) _⟩
    have := fill_start (w.alloc (.cells #[.int .i64 ((sumTo (fun j => v j * v j) n) / n + 1)] 3)) n (normOf n v)
    simpa using this
  case round =>
    obtain ⟨k, hk, rfl, hrow, hbel⟩ := hrel
    by_cases hlt : k < n
    · have c1 := (hbel.cell (p := ⟨b1, o1 + k, none⟩) hlb1).trans (Hc1.out k hlt)
      have c3 := hrow.cell hlt
      have c4 := hrow.frozen k
      obtain ⟨x1, x2⟩ := bv k
      go_wp2_with fail
      refine Calls_use (cut_any _ _) ?_
      rw [HR.out]
      go_wp2
      go_roundw
      case rel => exact ⟨k + 1, by omega, by go_num, fill_step hrow rfl, hbel.setCell (by show w.heap.size ≤ w.heap.size + 1; omega) _⟩
      case measure => simp [intOf]; omega
    · have hkr : n = k := by omega
      subst hkr
      go_wp2
      go_ret
      exact ⟨_, rfl, fill_done hrow (by unfold maxLen; omega), hbel⟩

end Go.Proofs.Ytaidjhlijadmiaa
