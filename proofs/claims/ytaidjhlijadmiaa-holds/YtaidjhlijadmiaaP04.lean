import Derived.Deep.QuietTactic
import Derived.BigQuiet
import Derived.Deep.Light
import Derived.Deep.RegionHeld3
import Derived.Deep.DrawnRows
import Derived.Test.YtaidjhlijadmiaaP01
import Derived.Test.YtaidjhlijadmiaaP02
import Derived.Test.YtaidjhlijadmiaaP03

/-
  The reference's matrix times vector.
-/
namespace Go.Proofs.Ytaidjhlijadmiaa
open Go.RowKit

theorem Try.info_int : (Try.prog.info? 3).map (fun i => (i.zero, i.size, i.bytes)) = some (some (.int .i64 0), 1, 8) := by kernel_rfl

/-- A row of a matrix that begins at a weight, times a vector. -/
def mulAt (W : Nat → Int) (start m : Nat) (v : Nat → Int) (i : Nat) : Int := cutI ((sumTo (fun j => W (start + i * m + j) * v j) m).tdiv 8)

set_option maxHeartbeats 1000000 in
theorem reftimes_any (d start rows nW m : Nat) (vW vv : Value) (W v : Nat → Int) (w : World)
    (hd : d < w.heap.size) (hcW : w.cell? ⟨d, 7, none⟩ = some vW) (hW : Ints w vW nW W) (hv : Ints w vv m v) (hfit : start + rows * m ≤ nW)
    (hn : nW ≤ 100000) (hm : m ≤ 100) (hr : rows ≤ 100) (bW : ∀ j, -8 ≤ W j ∧ W j ≤ 8) (bv : ∀ j, -4095 ≤ v j ∧ v j ≤ 4095) :
    Calls Try.prog 69 #[.pointer (some ⟨d, 0, none⟩), .int .i64 start, .int .i64 rows, vv] w fun e w' =>
      ∃ r, e = .returned r ∧ w'.ownsRow w.heap.size 3 1 r rows ((List.range rows).map fun i => .int .i64 (mulAt W start m v i)) ∧ Below w.heap.size w w' := by
  obtain ⟨i0, hi, hz0, hz1, hz2⟩ := info_parts Try.info_int
  obtain ⟨aW, cW, rfl, hW1, hW2, hW3⟩ := hW
  obtain ⟨av, cv, rfl, hv1, hv2, hv3⟩ := hv
  go_enter Try.func69, Try.ntmps69
  go_wp2
  go_loopw [9, 10] (fun o i wr => ∃ k : Nat, k ≤ rows ∧ i = .int .i64 k ∧ wr.ownsRow w.heap.size 3 1 o k ((List.range k).map fun i => .int .i64 (mulAt W start m v i)) ∧ Below w.heap.size w wr) (fun _ i _ => rows - (intOf i).toNat)
  case atStart => exact ⟨0, Nat.zero_le _, rfl, World.ownsRow_nil _ _ _ _, Below.refl _ _⟩
  case round =>
    obtain ⟨k, hk, rfl, hown, hbel⟩ := hrel
    by_cases hlt : k < rows
    · have hkm : k * m + m ≤ rows * m := by
        have := Nat.mul_le_mul_right m (show k + 1 ≤ rows from hlt)
        rw [Nat.add_mul] at this; omega
      go_wp2
      go_loopw [11, 12] (fun s i wi => ∃ j : Nat, j ≤ m ∧ i = .int .i64 j ∧ s = .int .i64 (sumTo (fun j => W (start + k * m + j) * v j) j) ∧ ∃ q, wi = wr.drewN q) (fun _ i _ => m - (intOf i).toNat)
      case atStart => exact ⟨0, Nat.zero_le _, rfl, rfl, 0, rfl⟩
      case round =>
        obtain ⟨j, hj, rfl, rfl, q, rfl⟩ := hrel
        obtain ⟨hs1, hs2⟩ := sumTo_bd (f := fun j => W (start + k * m + j) * v j) (n := j) (b := 8 * 4095) (fun i _ => mul_bd (bW _) (bv _))
        obtain ⟨hp1, hp2⟩ := mul_bd (bW (start + k * m + j)) (bv j)
        by_cases hjl : j < m
        · obtain ⟨bv', ov, rfl, hbv, hcv⟩ := hv3 (by omega)
          obtain ⟨bw', ow, rfl, hbw, hcw⟩ := hW3 (by omega)
          have c1 := (hbel.cell (p := ⟨bv', ov + j, none⟩) hbv).trans (hcv j hjl)
          have c2 := (hbel.cell (p := ⟨bw', ow + (start + k * m + j), none⟩) hbw).trans (hcw (start + k * m + j) (by omega))
          have c3 := (hbel.cell (p := ⟨d, 7, none⟩) hd).trans hcW
          clear hcv hcw hv3 hW3 hcW
          go_wp2
          go_quiet (fail)
          go_wp2
          go_roundw
          case rel => exact ⟨j + 1, by omega, by go_num, rfl, _, rfl⟩
          case measure => simp [intOf]; omega
        · have hjm : m = j := by omega
          subst hjm
          go_wp2_with fail
          refine (refcut_any _ _).mono ?_
          rintro e w1 ⟨rfl, rfl⟩
          go_wp2_with (at_builtin; refine wpList_append_own _ rfl _ _ 36 rfl w.heap.size 3 i0 (.int .i64 0) 1 8 Try.underlying36 hi hz0 hz1 hz2 rfl (by decide) _ _ _ rfl ((owns_drewN hown q).alloc _) ⟨wr.heap.size, 0, none⟩ 1 1 [.int .i64 (mulAt W start m v k)] rfl rfl ?c1 ?c2 ?c3 ?c4 ?c5 ?_)
          case c1 => exact one_new (wr.drewN q) _ _
          case c2 => exact one_int _
          case c3 => unfold maxLen; omega
          case c4 => omega
          case c5 => have := hbel.size; simp; omega
          intro v' w1 hown' hgrow _
          have hbel' : Below w.heap.size w w1 := ((below_drewN hbel q).alloc (by have := hbel.size; simp; omega) _).grown hgrow (by have := hbel.size; simp; omega) (fun g hg => (hown.lt g hg).1)
          rw [← range_map_succ (fun i => Value.int .i64 (mulAt W start m v i))] at hown'
          clear hown hgrow
          go_wp2
          go_roundw
          case rel => exact ⟨k + 1, by omega, by go_num, hown', hbel'⟩
          case measure => simp [intOf]; omega
    · go_wp2
      have hkr : k = rows := by omega
      subst hkr
      go_ret
      exact ⟨_, rfl, hown, hbel⟩

end Go.Proofs.Ytaidjhlijadmiaa

/-
  The reference's root, norm, plus.
-/
namespace Go.Proofs.Ytaidjhlijadmiaa
open Go.RowKit

theorem half_sq (l h : Int) (h1 : 1 ≤ l) (h2 : l < h) (h3 : h ≤ 67108864) : 0 ≤ (l + h) / 2 * ((l + h) / 2) ∧ (l + h) / 2 * ((l + h) / 2) ≤ 4503599627370496 := by
  have a : 0 ≤ (l + h) / 2 := by omega
  have b : (l + h) / 2 ≤ 67108864 := by omega
  have := sq_mono a b
  exact ⟨Int.mul_nonneg a a, by omega⟩

set_option maxHeartbeats 400000 in
theorem refroot_any (n : Int) (w : World) (h1 : 1 ≤ n) (h2 : n < 4503599627370496) :
    Calls Try.prog 87 #[.int .i64 n] w fun e w' => e = .returned (.int .i64 (rootI n)) ∧ w' = w := by
  go_enter Try.func87, Try.ntmps87
  go_wp2
  go_loop [3, 4] (fun a b => ∃ l h : Int, a = .int .i64 l ∧ b = .int .i64 h ∧ 1 ≤ l ∧ l < h ∧ h ≤ 67108864 ∧ l * l ≤ n ∧ n < h * h) (fun a b => (intOf b - intOf a).toNat)
  case atStart => exact ⟨1, 67108864, rfl, rfl, by omega, by omega, by omega, by omega, by omega⟩
  case round =>
    obtain ⟨l, h, rfl, rfl, hl, hlh, hh, hll, hhh⟩ := hrel
    have hsq := half_sq l h hl hlh hh
    obtain ⟨hs1, hs2⟩ := hsq
    by_cases hc : 1 < h - l
    · go_wp2
      · go_round
        case rel => exact ⟨(l + h) / 2, h, rfl, rfl, by omega, by omega, by omega, by assumption, by assumption⟩
        case measure => simp [intOf]; omega
      · go_round
        case rel => exact ⟨l, (l + h) / 2, rfl, rfl, by omega, by omega, by omega, by assumption, by assumption⟩
        case measure => simp [intOf]; omega
    · have e : h = l + 1 := by omega
      subst e
      have hr := rootI_eq n l (by omega) hll hhh
      have HR : Hid (rootI n = l) := hr
      clear hr
      go_wp2
      go_ret
      exact ⟨ret_int HR.out.symm, rfl⟩

/-- A vector's norm. -/
def normOf (n : Nat) (v : Nat → Int) (i : Nat) : Int := cutI ((v i * 256).tdiv (rootI ((sumTo (fun j => v j * v j) n).tdiv n + 1)))

theorem sq_sum (n j : Nat) (v : Nat → Int) (bv : ∀ j, -4095 ≤ v j ∧ v j ≤ 4095) (hj : j ≤ n) (hn : n ≤ 100) : 0 ≤ sumTo (fun j => v j * v j) j ∧ sumTo (fun j => v j * v j) j ≤ 1676902500 := by
  have h1 := sumTo_bd (f := fun j => v j * v j) (n := j) (b := 4095 * 4095) (fun i _ => mul_bd (bv _) (bv _))
  have h2 : 0 ≤ sumTo (fun j => v j * v j) j := sumTo_nonneg (fun i _ => by by_cases h : 0 ≤ v i; exact Int.mul_nonneg h h; exact Int.mul_nonneg_of_nonpos_of_nonpos (by omega) (by omega))
  omega

set_option maxHeartbeats 1000000 in
theorem refnorm_any (n : Nat) (vv : Value) (v : Nat → Int) (w : World) (hv : Ints w vv n v) (hn1 : 1 ≤ n) (hn : n ≤ 100) (bv : ∀ j, -4095 ≤ v j ∧ v j ≤ 4095) :
    Calls Try.prog 70 #[vv] w fun e w' =>
      ∃ r, e = .returned r ∧ w'.ownsRow w.heap.size 3 1 r n ((List.range n).map fun i => .int .i64 (normOf n v i)) ∧ Below w.heap.size w w' := by
  obtain ⟨i0, hi, hz0, hz1, hz2⟩ := info_parts Try.info_int
  obtain ⟨av, cv, rfl, hv1, hv2, hv3⟩ := hv
  obtain ⟨b, off, rfl, hb, hc⟩ := hv3 (by omega)
  go_enter Try.func70, Try.ntmps70
  go_wp2
  go_loopw [3, 4] (fun s i wi => ∃ j : Nat, j ≤ n ∧ i = .int .i64 j ∧ s = .int .i64 (sumTo (fun j => v j * v j) j) ∧ ∃ q, wi = w.drewN q) (fun _ i _ => n - (intOf i).toNat)
  case atStart => exact ⟨0, Nat.zero_le _, rfl, rfl, 0, rfl⟩
  case round =>
    obtain ⟨j, hj, rfl, rfl, q, rfl⟩ := hrel
    obtain ⟨hs1, hs2⟩ := sq_sum n j v bv hj hn
    obtain ⟨hp1, hp2⟩ := mul_bd (bv j) (bv j)
    by_cases hjl : j < n
    · have c1 := hc j hjl
      clear hc hv3
      go_wp2
      go_quiet (fail)
      go_wp2
      go_roundw
      case rel => exact ⟨j + 1, by omega, by go_num, rfl, _, rfl⟩
      case measure => simp [intOf]; omega
    · have hjm : n = j := by omega
      subst hjm
      have hd1 : 0 ≤ (sumTo (fun j => v j * v j) n) / n := Int.ediv_nonneg hs1 (by omega)
      have hd2 : (sumTo (fun j => v j * v j) n) / n ≤ 1676902500 := Int.le_trans (Int.ediv_le_self _ hs1) hs2
      go_wp2_with fail
      refine Calls_use (refroot_any _ _ (by omega) (by omega)) ?_
      have hr1 := rootI_pos ((sumTo (fun j => v j * v j) n) / n + 1) (by omega)
      generalize hR : rootI ((sumTo (fun j => v j * v j) n) / n + 1) = R at hr1 ⊢
      have hR2 : ∀ i, cutI ((v i * 256).tdiv R) = normOf n v i := fun i => by
        unfold normOf; rw [Int.tdiv_eq_ediv_of_nonneg hs1, hR]
      have HR : Hid (∀ i, cutI ((v i * 256).tdiv R) = normOf n v i) := hR2
      clear hR2 hR hp1 hp2 hs1 hs2 hd1 hd2
      go_wp2
      go_loopw [6, 7] (fun o i wr => ∃ k : Nat, k ≤ n ∧ i = .int .i64 k ∧ wr.ownsRow w.heap.size 3 1 o k ((List.range k).map fun i => .int .i64 (normOf n v i)) ∧ Below w.heap.size w wr) (fun _ i _ => n - (intOf i).toNat)
      case atStart => exact ⟨0, Nat.zero_le _, rfl, World.ownsRow_nil _ _ _ _, below_drewN (Below.refl _ _) _⟩
      case round =>
        obtain ⟨k, hk, rfl, hown, hbel⟩ := hrel
        by_cases hlt : k < n
        · have c1 := (hbel.cell (p := ⟨b, off + k, none⟩) hb).trans (hc k hlt)
          obtain ⟨hb1, hb2⟩ := bv k
          clear hc hv3
          go_wp2_with fail
          refine Calls_use (refcut_any _ _) ?_
          rw [HR.out]
          go_wp2_with (at_builtin; (refine wpList_append_own _ rfl _ _ 36 rfl w.heap.size 3 i0 (.int .i64 0) 1 8 Try.underlying36 hi hz0 hz1 hz2 rfl (by decide) _ _ _ rfl (hown.alloc _) ⟨wr.heap.size, 0, none⟩ 1 1 [.int .i64 (normOf n v k)] rfl rfl ?c1 ?c2 ?c3 ?c4 ?c5 ?_))
          case c1 => exact one_new wr _ _
          case c2 => exact one_int _
          case c3 => unfold maxLen; omega
          case c4 => omega
          case c5 => have := hbel.size; simp; omega
          intro v' w1 hown' hgrow _
          have hbel' : Below w.heap.size w w1 := (hbel.alloc hbel.size _).grown hgrow (by have := hbel.size; simp; omega) (fun g hg => (hown.lt g hg).1)
          rw [← range_map_succ (fun i => Value.int .i64 (normOf n v i))] at hown'
          clear hown hgrow
          go_wp2
          go_roundw
          case rel => exact ⟨k + 1, by omega, by go_num, hown', hbel'⟩
          case measure => simp [intOf]; omega
        · have hkr : n = k := by omega
          subst hkr
          go_wp2
          go_ret
          exact ⟨_, rfl, hown, hbel⟩

end Go.Proofs.Ytaidjhlijadmiaa
