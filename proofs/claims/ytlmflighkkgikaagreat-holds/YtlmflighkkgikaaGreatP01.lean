import Derived.Test.YtlmflighkkgikaaGreatProg
import Derived.WalkKit
import Derived.WalkSpells
import Derived.WalkLawsBesides
import Derived.WalkSmall
import Derived.Deep.Draws
import Derived.KernelRfl
import Derived.Deep.RegionLaw
import Derived.OrdersHeld
import Derived.Deep.AppendLies
import Derived.ArgAppend
import Derived.Maps.OwnSet
import Derived.Deep.QuietTactic
import Derived.BigQuiet
import Derived.Deep.Light

namespace Go.Proofs.YtlmflighkkgikaaGreat
open Go.RowKit
def cutI (x : Int) : Int := if 4095 < x then 4095 else if x < -4095 then -4095 else x
theorem cutI_bd (x : Int) : -4095 ≤ cutI x ∧ cutI x ≤ 4095 := by unfold cutI; omega
theorem ret_int {k : IntKind} {a b : Int} (h : a = b) : Ending.returned (.int k a) = .returned (.int k b) := by rw [h]
theorem refcut_any (x : Int) (w : World) :
   Calls Tryz.prog 81 #[.int .i64 x] w fun e w' => e = .returned (.int .i64 (cutI x)) ∧ w' = w := by
 go_enter Tryz.func81, Tryz.ntmps81
 go_wp2
 all_goals go_ret
 all_goals refine ⟨ret_int ?_, rfl⟩
 all_goals (unfold cutI; omega)
theorem cut_any (x : Int) (w : World) :
   Calls Tryz.prog 112 #[.int .i64 x] w fun e w' => e = .returned (.int .i64 (cutI x)) ∧ w' = w := by
 go_enter Tryz.func112, Tryz.ntmps112
 go_wp2
 all_goals go_ret
 all_goals refine ⟨ret_int ?_, rfl⟩
 all_goals (unfold cutI; omega)
theorem mark_any (i : Int) (w : World) (h0 : 0 ≤ i) (h1 : i ≤ 9000000000000000000) :
   Calls Tryz.prog 30 #[.int .i64 i] w fun e w' => e = .returned (.int .i64 (-700000000 - i)) ∧ w' = w := by
 go_enter Tryz.func30, Tryz.ntmps30
 go_wp2
 go_ret
 exact ⟨rfl, rfl⟩
theorem num_any (i : Int) (w : World) :
   Calls Tryz.prog 25 #[.int .i64 i] w fun e w' => e = .returned (.int .i64 i) ∧ w' = w := by
 go_enter Tryz.func25, Tryz.ntmps25
 go_wp2
 go_ret
 exact ⟨rfl, rfl⟩
def pickI (c : Int) (n : Int) : Int := if c < 0 then (-(c + 1)).tmod n else c.tmod n
theorem pick_any (c n : Int) (w : World) (hc : -9223372036854775808 ≤ c ∧ c ≤ 9223372036854775807) (h1 : 1 ≤ n) (h2 : n ≤ 2) :
   Calls Tryz.prog 9 #[.int .i64 c, .int .i64 n] w fun e w' => e = .returned (.int .i64 (pickI c n)) ∧ w' = w := by
 obtain ⟨ha, hb⟩ := hc
 go_enter Tryz.func9, Tryz.ntmps9
 go_wp2
 all_goals go_ret
 all_goals refine ⟨ret_int ?_, rfl⟩
 all_goals unfold pickI
 · rw [if_pos ‹_›, Int.neg_tmod]
 · rw [if_neg (by omega), Int.tmod_eq_emod_of_nonneg (by omega)]
theorem within_any (n a b : Int) (w : World) :
   Calls Tryz.prog 64 #[.int .i64 n, .int .i64 a, .int .i64 b] w fun e w' => e = .returned (.bool (decide (a ≤ n ∧ n ≤ b))) ∧ w' = w := by
 go_enter Tryz.func64, Tryz.ntmps64
 go_wp2
 all_goals go_ret
 all_goals refine ⟨?_, rfl⟩
 all_goals simp [*]
 all_goals omega
def sumTo (f : Nat → Int) : Nat → Int
 | 0 => 0
 | n + 1 => sumTo f n + f n
theorem sumTo_congr {f g : Nat → Int} {n : Nat} (h : ∀ j, j < n → f j = g j) : sumTo f n = sumTo g n := by
 induction n with
 | zero => rfl
 | succ n ih => simp only [sumTo]; rw [ih (fun j hj => h j (by omega)), h n (by omega)]
theorem sumTo_bd {f : Nat → Int} {n : Nat} {b : Int} (h : ∀ j, j < n → -b ≤ f j ∧ f j ≤ b) : -(n * b) ≤ sumTo f n ∧ sumTo f n ≤ n * b := by
 induction n with
 | zero => simp [sumTo]
 | succ n ih =>
   have h1 := ih (fun j hj => h j (by omega))
   have h2 := h n (by omega)
   simp only [sumTo]
   have e : ((n + 1 : Nat) : Int) * b = n * b + b := by rw [Int.natCast_add, Int.add_mul]; simp
   rw [e]; omega
theorem sumTo_nonneg {f : Nat → Int} {n : Nat} (h : ∀ j, j < n → 0 ≤ f j) : 0 ≤ sumTo f n := by
 induction n with
 | zero => simp [sumTo]
 | succ n ih =>
   have h1 := ih (fun j hj => h j (by omega))
   have h2 := h n (by omega)
   simp only [sumTo]; omega
theorem mul_bd {a b x y : Int} (ha : -x ≤ a ∧ a ≤ x) (hb : -y ≤ b ∧ b ≤ y) : -(x * y) ≤ a * b ∧ a * b ≤ x * y := by
 have h1 : a.natAbs * b.natAbs ≤ x.natAbs * y.natAbs := Nat.mul_le_mul (by omega) (by omega)
 rw [← Int.natAbs_mul, ← Int.natAbs_mul] at h1
 have h2 : 0 ≤ x * y := Int.mul_nonneg (by omega) (by omega)
 omega
def Row (w : World) (v : Value) (n : Nat) (f : Nat → Value) : Prop :=
 ∃ a c, v = .slice a n c ∧ n ≤ c ∧ c ≤ maxLen ∧ (0 < n → ∃ b off, a = some ⟨b, off, none⟩ ∧ b < w.heap.size ∧ ∀ j, j < n → w.cell? ⟨b, off + j, none⟩ = some (f j))
def Ints (w : World) (v : Value) (n : Nat) (g : Nat → Int) : Prop := Row w v n (fun j => .int .i64 (g j))
theorem Row.congr {w : World} {v : Value} {n : Nat} {f g : Nat → Value} (h : Row w v n f) (e : ∀ j, j < n → f j = g j) : Row w v n g := by
 obtain ⟨a, c, rfl, h1, h2, h3⟩ := h
 refine ⟨a, c, rfl, h1, h2, fun hn => ?_⟩
 obtain ⟨b, off, rfl, hb, hc⟩ := h3 hn
 exact ⟨b, off, rfl, hb, fun j hj => by rw [hc j hj, e j hj]⟩
theorem Ints.congr {w : World} {v : Value} {n : Nat} {f g : Nat → Int} (h : Ints w v n f) (e : ∀ j, j < n → f j = g j) : Ints w v n g :=
 Row.congr h (fun j hj => by rw [e j hj])
theorem Row.below {w w' : World} {v : Value} {n : Nat} {f : Nat → Value} (h : Row w v n f) (hb : Below w.heap.size w w') : Row w' v n f := by
 obtain ⟨a, c, rfl, h1, h2, h3⟩ := h
 refine ⟨a, c, rfl, h1, h2, fun hn => ?_⟩
 obtain ⟨b, off, rfl, hlt, hc⟩ := h3 hn
 exact ⟨b, off, rfl, Nat.lt_of_lt_of_le hlt hb.size, fun j hj => by rw [hb.cell (p := ⟨b, off + j, none⟩) hlt]; exact hc j hj⟩
theorem Ints.below {w w' : World} {v : Value} {n : Nat} {f : Nat → Int} (h : Ints w v n f) (hb : Below w.heap.size w w') : Ints w' v n f := Row.below h hb
theorem Row.of_owns {w : World} {base : Nat} {e : TypeId} {v : Value} {n : Nat} {f : Nat → Value} (h : w.ownsRow base e 1 v n ((List.range n).map f)) : Row w v n f := by
 obtain ⟨_, ⟨rfl, rfl⟩ | ⟨g, cap, cur, rfl, hb, hg, hn, hm, hs, ht⟩⟩ := h
 · exact ⟨none, 0, rfl, Nat.le_refl _, by simp [maxLen], fun h => absurd h (by omega)⟩
 · refine ⟨_, cap, rfl, hn, hm, fun _ => ⟨g, 0, rfl, (Array.getElem?_eq_some_iff.1 hg).1, fun j hj => ?_⟩⟩
   have h1 : cur.toList[j]? = some (f j) := by
     have := congrArg (fun l => l[j]?) ht
     simp [hj] at this
     simpa using this
   simp [World.cell?, hg]
   simpa using h1
theorem range_map_succ {α : Type} (f : Nat → α) (n : Nat) : (List.range (n + 1)).map f = (List.range n).map f ++ [f n] := by simp [List.range_succ]
theorem wrap_in {x : Int} (h1 : -9223372036854775808 ≤ x) (h2 : x ≤ 9223372036854775807) : IntKind.i64.wrap x = x := by
 rw [IntKind.wrap_i64]; omega
theorem cell_blk {w : World} {b : Nat} {arr : Array Value} {t : TypeId} {fr : Nat × Nat} (h : w.heap[b]? = some (.cells arr t fr)) (i : Nat) : w.cell? ⟨b, i, none⟩ = arr[i]? := by
 simp [World.cell?, h]
theorem frozen_blk {w : World} {b : Nat} {arr : Array Value} {t : TypeId} (h : w.heap[b]? = some (.cells arr t (0, 0))) (i : Nat) : w.frozen? ⟨b, i, none⟩ = false := by
 simp [World.frozen?, h]
theorem lt_blk {w : World} {b : Nat} {o : Obj} (h : w.heap[b]? = some o) : b < w.heap.size := (Array.getElem?_eq_some_iff.1 h).1
theorem setCell_blk {w : World} {b : Nat} {arr : Array Value} {t : TypeId} {fr : Nat × Nat} (h : w.heap[b]? = some (.cells arr t fr)) (i : Nat) (v : Value) :
   (w.setCell ⟨b, i, none⟩ v).heap[b]? = some (.cells (arr.setIfInBounds i v) t fr) := by
 simp [World.setCell, Array.getElem?_modify, h]
theorem setCell_far (w : World) (b i k : Nat) (v : Value) (h : k ≠ b) : (w.setCell ⟨b, i, none⟩ v).heap[k]? = w.heap[k]? := Below.heap_setCell w ⟨b, i, none⟩ v k h
theorem alloc_new (w : World) (o : Obj) : (w.alloc o).heap[w.heap.size]? = some o := heap_alloc_new w o
theorem alloc_old (w : World) (o : Obj) (k : Nat) (h : k < w.heap.size) : (w.alloc o).heap[k]? = w.heap[k]? := Below.heap_alloc w o k h
theorem hide {p : Prop} (h : p) : Hid p := h
theorem Calls_use {P : Program} {f : FuncId} {args : Array Value} {w : World} {v : Value} {K : Ending → World → Prop} (h : Calls P f args w fun e w' => e = .returned v ∧ w' = w) (k : K (.returned v) w) : Calls P f args w K :=
 h.mono (by rintro e w' ⟨rfl, rfl⟩; exact k)
theorem one_new (w : World) (x : Value) (t : TypeId) : ∀ (j : Nat) (u : Value), [x][j]? = some u → (w.alloc (.cells #[x] t)).cell? ((⟨w.heap.size, 0, none⟩ : Addr).add j) = some u := by
 intro j u hj
 match j, hj with
 | 0, hj => simp at hj; subst hj; simp [Addr.add]
theorem one_int (x : Int) : ∀ u ∈ [Value.int .i64 x], u.oneCell' = true := by
 intro u hu; simp at hu; subst hu; rfl
theorem owns_drewN {w : World} {base : Nat} {e : TypeId} {size : Nat} {v : Value} {n : Nat} {xs : List Value} (h : w.ownsRow base e size v n xs) (q : Nat) : (w.drewN q).ownsRow base e size v n xs := h
end Go.Proofs.YtlmflighkkgikaaGreat
namespace Go.Proofs.YtlmflighkkgikaaGreat
def rootTo (n : Int) : Nat → Nat
 | 0 => 0
 | k + 1 => if ((k : Int) + 1) * ((k : Int) + 1) ≤ n then k + 1 else rootTo n k
def rootI (n : Int) : Int := rootTo n n.toNat
theorem sq_mono {a b : Int} (h0 : 0 ≤ a) (h : a ≤ b) : a * a ≤ b * b := Int.mul_le_mul h h h0 (by omega)
theorem rootTo_le (n : Int) (k : Nat) (h0 : 0 ≤ n) : ((rootTo n k : Nat) : Int) * (rootTo n k : Nat) ≤ n := by
 induction k with
 | zero => simpa [rootTo] using h0
 | succ k ih =>
   unfold rootTo
   split
   · next h => simpa using h
   · exact ih
theorem rootTo_max (n : Int) (k : Nat) : ∀ r : Nat, r ≤ k → (r : Int) * r ≤ n → r ≤ rootTo n k := by
 induction k with
 | zero => intro r hr _; omega
 | succ k ih =>
   intro r hr h
   unfold rootTo
   split
   · exact hr
   · next hk =>
     by_cases e : r = k + 1
     · subst e; simp at h; exact absurd h hk
     · exact ih r (by omega) h
theorem rootI_le (n : Int) (h : 0 ≤ n) : rootI n * rootI n ≤ n := rootTo_le n _ h
theorem rootI_eq (n r : Int) (h0 : 0 ≤ r) (h1 : r * r ≤ n) (h2 : n < (r + 1) * (r + 1)) : rootI n = r := by
 have hn : 0 ≤ n := by have := Int.mul_nonneg h0 h0; omega
 have hle := rootI_le n hn
 have h3 : rootI n ≤ r := by
   apply Int.le_of_not_gt
   intro hgt
   have := sq_mono (a := r + 1) (b := rootI n) (by omega) (by omega)
   omega
 have h4 : r ≤ rootI n := by
   have hrn : r ≤ n := by
     by_cases e : r = 0
     · omega
     · have := Int.mul_le_mul_of_nonneg_left (show (1 : Int) ≤ r by omega) h0
       rw [Int.mul_one] at this; omega
   have := rootTo_max n n.toNat r.toNat (by omega) (by rw [Int.toNat_of_nonneg h0]; exact h1)
   unfold rootI; omega
 omega
theorem rootI_pos (n : Int) (h : 1 ≤ n) : 1 ≤ rootI n := by
 have := rootTo_max n n.toNat 1 (by omega) (by simpa using h)
 unfold rootI; omega
end Go.Proofs.YtlmflighkkgikaaGreat
namespace Go.Proofs.YtlmflighkkgikaaGreat
open Ieee
theorem log2_mul_pow (m k : Nat) (h : m ≠ 0) : (m * 2 ^ k).log2 = m.log2 + k := by
 induction k with
 | zero => simp
 | succ k ih =>
   have hk : m * 2 ^ k ≠ 0 := Nat.mul_ne_zero h (by simp)
   rw [Nat.pow_succ, ← Nat.mul_assoc, Nat.mul_comm _ 2, Nat.log2_two_mul hk, ih]; omega
theorem cut_exact (way : Toward) (neg : Bool) (n d : Nat) (hd : d ≤ (n * 2 ^ d).log2 + 2) : way.cut neg (n * 2 ^ d) d = n := by
 unfold Toward.cut
 have e1 : min d ((n * 2 ^ d).log2 + 2) = d := by omega
 have hp : 0 < 2 ^ d := Nat.two_pow_pos _
 simp only [e1, Nat.one_shiftLeft, Nat.mul_mod_left, Nat.mul_div_cancel _ hp]
 cases way <;> simp
 all_goals omega
theorem nearest_scale (neg : Bool) (m k : Nat) (h0 : m ≠ 0) (h1 : m.log2 ≤ 52) : double.nearest neg (m * 2 ^ k) (-(k : Int)) = double.nearest neg m 0 := by
 have hmk : m * 2 ^ k ≠ 0 := Nat.mul_ne_zero h0 (by simp)
 unfold Format.nearest
 rw [if_neg hmk, if_neg h0, log2_mul_pow m k h0]
 have el : double.leastPlace = -1074 := by rfl
 have ef : double.fractionBits = 52 := rfl
 rw [el, ef]
 have e1 : max (-(k : Int) + ((m.log2 + k : Nat) : Int) - ((52 : Nat) : Int)) (-1074) = (m.log2 : Int) - 52 := by omega
 have e2 : max ((0 : Int) + ((m.log2 : Nat) : Int) - ((52 : Nat) : Int)) (-1074) = (m.log2 : Int) - 52 := by omega
 simp only [e1, e2]
 have k2 : Toward.even.cut neg (m <<< ((0 : Int) - ((m.log2 : Int) - 52)).toNat) (((m.log2 : Int) - 52) - 0).toNat = m * 2 ^ (52 - m.log2) := by
   rw [show (((m.log2 : Int) - 52) - 0).toNat = 0 by omega, show ((0 : Int) - ((m.log2 : Int) - 52)).toNat = 52 - m.log2 by omega, Nat.shiftLeft_eq]
   have := cut_exact Toward.even neg (m * 2 ^ (52 - m.log2)) 0 (by omega)
   simpa using this
 have k1 : Toward.even.cut neg ((m * 2 ^ k) <<< (-(k : Int) - ((m.log2 : Int) - 52)).toNat) (((m.log2 : Int) - 52) - -(k : Int)).toNat = m * 2 ^ (52 - m.log2) := by
   by_cases hk : k ≤ 52 - m.log2
   · rw [show (((m.log2 : Int) - 52) - -(k : Int)).toNat = 0 by omega, show (-(k : Int) - ((m.log2 : Int) - 52)).toNat = 52 - m.log2 - k by omega, Nat.shiftLeft_eq, Nat.mul_assoc, ← Nat.pow_add, show k + (52 - m.log2 - k) = 52 - m.log2 by omega]
     have := cut_exact Toward.even neg (m * 2 ^ (52 - m.log2)) 0 (by omega)
     simpa using this
   · rw [show (-(k : Int) - ((m.log2 : Int) - 52)).toNat = 0 by omega, Nat.shiftLeft_zero]
     have e3 : m * 2 ^ k = (m * 2 ^ (52 - m.log2)) * 2 ^ (k - (52 - m.log2)) := by rw [Nat.mul_assoc, ← Nat.pow_add]; congr 2; omega
     rw [show (((m.log2 : Int) - 52) - -(k : Int)).toNat = k - (52 - m.log2) by omega, e3]
     exact cut_exact Toward.even neg _ _ (by rw [← e3, log2_mul_pow m k h0]; omega)
 rw [k1, k2]
def wd (neg : Bool) (m : Nat) : Nat := double.nearest neg m 0
theorem log2_small (m : Nat) (h : m ≤ 4095) : m.log2 ≤ 11 := by
 by_cases h0 : m = 0
 · subst h0; decide
 · have := (Nat.log2_lt h0 (k := 12)).2 (by omega)
   omega
theorem read_wd (neg : Bool) (m : Nat) (h0 : m ≠ 0) (h1 : m ≤ 4095) : double.read (wd neg m) = .number neg (m * 2 ^ (52 - m.log2)) (-((52 - m.log2 : Nat) : Int)) := by
 have hl := log2_small m h1
 have hlo : 2 ^ 52 ≤ m * 2 ^ (52 - m.log2) := by
   have := Nat.log2_self_le h0
   calc 2 ^ 52 = 2 ^ m.log2 * 2 ^ (52 - m.log2) := by rw [← Nat.pow_add]; congr 1; omega
     _ ≤ m * 2 ^ (52 - m.log2) := Nat.mul_le_mul_right _ this
 have hhi : m * 2 ^ (52 - m.log2) < 2 ^ 53 := by
   have := Nat.lt_log2_self (n := m)
   calc m * 2 ^ (52 - m.log2) < 2 ^ (m.log2 + 1) * 2 ^ (52 - m.log2) := Nat.mul_lt_mul_of_pos_right this (Nat.two_pow_pos _)
     _ = 2 ^ 53 := by rw [← Nat.pow_add]; congr 1; omega
 have hw : wd neg m = double.word neg ((m.log2 + 1022) * 4503599627370496 + m * 2 ^ (52 - m.log2)) := by
   unfold wd Format.nearest
   rw [if_neg h0]
   have el : double.leastPlace = -1074 := by rfl
   have ef : double.fractionBits = 52 := rfl
   have eb : double.binade = 4503599627370496 := by rfl
   have ei : double.infRung = 9218868437227405312 := by rfl
   rw [el, ef, eb, ei]
   have e2 : max ((0 : Int) + ((m.log2 : Nat) : Int) - ((52 : Nat) : Int)) (-1074) = (m.log2 : Int) - 52 := by omega
   simp only [e2]
   have k2 : Toward.even.cut neg (m <<< ((0 : Int) - ((m.log2 : Int) - 52)).toNat) (((m.log2 : Int) - 52) - 0).toNat = m * 2 ^ (52 - m.log2) := by
     rw [show (((m.log2 : Int) - 52) - 0).toNat = 0 by omega, show ((0 : Int) - ((m.log2 : Int) - 52)).toNat = 52 - m.log2 by omega, Nat.shiftLeft_eq]
     have := cut_exact Toward.even neg (m * 2 ^ (52 - m.log2)) 0 (by omega)
     simpa using this
   rw [k2, show (((m.log2 : Int) - 52) - -1074).toNat = m.log2 + 1022 by omega]
   congr 1
   generalize m * 2 ^ (52 - m.log2) = K at *
   omega
 rw [hw]
 generalize m * 2 ^ (52 - m.log2) = K at *
 generalize m.log2 = L at *
 have es : double.signWeight = 9223372036854775808 := by rfl
 have el : double.leastPlace = -1074 := by rfl
 have eb : double.binade = 4503599627370496 := by rfl
 have ei : double.infRung = 9218868437227405312 := by rfl
 unfold Format.read Format.word
 rw [es, el, eb, ei]
 have q1 : (L + 1022) * 4503599627370496 + K < 9218868437227405312 := by omega
 have q2 : ¬ (L + 1022) * 4503599627370496 + K < 4503599627370496 := by omega
 have q3 : 4503599627370496 + ((L + 1022) * 4503599627370496 + K) % 4503599627370496 = K := by omega
 have q4 : ((L + 1022) * 4503599627370496 + K) / 4503599627370496 - 1 = L + 1022 := by omega
 cases neg
 · have r1 : ((L + 1022) * 4503599627370496 + K) % 9223372036854775808 = (L + 1022) * 4503599627370496 + K := by omega
   have r2 : ((L + 1022) * 4503599627370496 + K) / 9223372036854775808 % 2 = 0 := by omega
   simp only [Bool.false_eq_true, if_false, r1, r2, if_neg q2, if_pos q1, q3, q4]
   rw [show (-1074 : Int) + ((L + 1022 : Nat) : Int) = -((52 - L : Nat) : Int) by omega]
   rfl
 · have r1 : (9223372036854775808 + ((L + 1022) * 4503599627370496 + K)) % 9223372036854775808 = (L + 1022) * 4503599627370496 + K := by omega
   have r2 : (9223372036854775808 + ((L + 1022) * 4503599627370496 + K)) / 9223372036854775808 % 2 = 1 := by omega
   simp only [if_true, r1, r2, if_neg q2, if_pos q1, q3, q4]
   rw [show (-1074 : Int) + ((L + 1022 : Nat) : Int) = -((52 - L : Nat) : Int) by omega]
   rfl
def wz (neg : Bool) : Nat := if neg then 9223372036854775808 else 0
theorem read_wz (neg : Bool) : double.read (wz neg) = .number neg 0 (-1074) := by cases neg <;> rfl
def w1 (neg : Bool) : Nat := if neg then 13830554455654793216 else 4607182418800017408
theorem read_w1 (neg : Bool) : double.read (w1 neg) = .number neg (2 ^ 52) (-52) := by cases neg <;> rfl
theorem wd_zero (neg : Bool) : wd neg 0 = wz neg := by cases neg <;> rfl
theorem mul_one_wd (s t : Bool) (m : Nat) (h1 : m ≤ 4095) : double.mul (wd s m) (w1 t) = some (wd (s ^^ t) m) := by
 by_cases h0 : m = 0
 · subst h0; cases s <;> cases t <;> rfl
 · unfold Format.mul
   rw [read_wd s m h0 h1, read_w1]
   simp only [Datum.product, Option.map_some, Format.write]
   have hl := log2_small m h1
   rw [Nat.mul_assoc, ← Nat.pow_add, show (-((52 - m.log2 : Nat) : Int) + -52) = -((52 - m.log2 + 52 : Nat) : Int) by omega, nearest_scale _ m _ h0 (by omega)]
   rfl
theorem mul_zero_wd (s t : Bool) (m : Nat) (h1 : m ≤ 4095) : double.mul (wd s m) (wz t) = some (wz (s ^^ t)) := by
 by_cases h0 : m = 0
 · subst h0; cases s <;> cases t <;> rfl
 · unfold Format.mul
   rw [read_wd s m h0 h1, read_wz]
   simp only [Datum.product, Option.map_some, Format.write, Nat.mul_zero, Format.nearest, if_true]
   cases s <;> cases t <;> rfl
theorem wd_num (s : Bool) (m : Nat) (h1 : m ≤ 4095) : ∃ k : Nat, k ≤ 1074 ∧ double.read (wd s m) = .number s (m * 2 ^ k) (-(k : Int)) := by
 by_cases h0 : m = 0
 · subst h0
   obtain ⟨P, hP⟩ : ∃ P : Nat, P = 1074 := ⟨_, rfl⟩
   exact ⟨P, by omega, by rw [wd_zero, read_wz, Nat.zero_mul, hP]; rfl⟩
 · exact ⟨52 - m.log2, by omega, read_wd s m h0 h1⟩
theorem sum_zero (s t : Bool) (m k : Nat) (h1 : m ≤ 4095) (hk : k ≤ 1074) : ∃ s', ((Datum.number s (m * 2 ^ k) (-(k : Int))).sum (.number t 0 (-1074))).map double.write = some (wd s' m) ∧ (m ≠ 0 → s' = s) := by
 by_cases h0 : m = 0
 · subst h0
   refine ⟨s && t, ?_, fun h => absurd rfl h⟩
   have z : ∀ (b : Bool) (j : Nat), signed b 0 j = 0 := fun b j => by cases b <;> simp [signed]
   simp only [Datum.sum, Nat.zero_mul, z, Int.add_zero, if_true, Option.map_some, Format.write, Format.nearest, Int.natAbs_zero]
   rw [wd_zero]
   cases s <;> cases t <;> rfl
 · refine ⟨s, ?_, fun _ => rfl⟩
   have hl := log2_small m h1
   obtain ⟨P, hP⟩ : ∃ P : Nat, P = 1074 := ⟨_, rfl⟩
   rw [show (-1074 : Int) = -(P : Int) by omega]
   have e1 : min (-(k : Int)) (-(P : Int)) = -(P : Int) := by omega
   have e2 : (-(k : Int) - -(P : Int)).toNat = P - k := by omega
   simp only [Datum.sum, e1, e2, Option.map_some, Format.write]
   have e3 : (m * 2 ^ k) <<< (P - k) = m * 2 ^ P := by
     rw [Nat.shiftLeft_eq, Nat.mul_assoc, ← Nat.pow_add]; congr 2; omega
   have e4 : signed t 0 (-(P : Int) - -(P : Int)).toNat = 0 := by cases t <;> simp [signed]
   have hpos : 0 < m * 2 ^ P := Nat.mul_pos (by omega) (Nat.two_pow_pos _)
   rw [e4, Int.add_zero]
   unfold signed
   rw [e3]
   have hn := nearest_scale s m P h0 (by omega)
   generalize m * 2 ^ P = X at *
   have hw : wd s m = double.nearest s X (-(P : Int)) := hn.symm
   rw [hw]
   congr 1
   cases s
   · simp only [Bool.false_eq_true, if_false]
     rw [if_neg (by omega), show decide ((X : Int) < 0) = false from by simp]
     congr 1
   · simp only [if_true]
     rw [if_neg (by omega), show decide (-(X : Int) < 0) = true from by simp; omega, Int.natAbs_neg]
     congr 1
theorem sum_comm' (s t : Bool) (m n : Nat) (i j : Int) : (Datum.number s m i).sum (.number t n j) = (Datum.number t n j).sum (.number s m i) := by
 simp only [Datum.sum, Int.min_comm i j, Bool.and_comm s t]
 rw [Int.add_comm]
theorem add_wd_wz (s t : Bool) (m : Nat) (h1 : m ≤ 4095) : ∃ s', double.add (wd s m) (wz t) = some (wd s' m) ∧ (m ≠ 0 → s' = s) := by
 obtain ⟨k, hk, hr⟩ := wd_num s m h1
 unfold Format.add
 rw [hr, read_wz]
 exact sum_zero s t m k h1 hk
theorem add_wz_wd (s t : Bool) (m : Nat) (h1 : m ≤ 4095) : ∃ s', double.add (wz t) (wd s m) = some (wd s' m) ∧ (m ≠ 0 → s' = s) := by
 obtain ⟨k, hk, hr⟩ := wd_num s m h1
 unfold Format.add
 rw [hr, read_wz, sum_comm']
 exact sum_zero s t m k h1 hk
theorem sub_wd_wz (s t : Bool) (m : Nat) (h1 : m ≤ 4095) : ∃ s', double.sub (wd s m) (wz t) = some (wd s' m) ∧ (m ≠ 0 → s' = s) := by
 obtain ⟨k, hk, hr⟩ := wd_num s m h1
 unfold Format.sub
 rw [hr, read_wz]
 exact sum_zero s (!t) m k h1 hk
theorem sub_wz_wd (s t : Bool) (m : Nat) (h1 : m ≤ 4095) : ∃ s', double.sub (wz t) (wd s m) = some (wd s' m) ∧ (m ≠ 0 → s' = !s) := by
 obtain ⟨k, hk, hr⟩ := wd_num s m h1
 unfold Format.sub
 rw [hr, read_wz]
 simp only [Datum.opposite]
 rw [sum_comm']
 exact sum_zero (!s) t m k h1 hk
def numOf (s : Bool) (m : Nat) : Int := if s then -(m : Int) else m
theorem toInt_wd (s : Bool) (m : Nat) (h1 : m ≤ 4095) : floatToIntVal .f64 (wd s m) .i64 = some (numOf s m) := by
 obtain ⟨k, hk, hr⟩ := wd_num s m h1
 have e : (FloatKind.f64.decode (wd s m)).toInt .zero = some (numOf s m) := by
   show (double.read (wd s m)).toInt .zero = _
   rw [hr]
   unfold Datum.toInt Datum.integral
   by_cases h0 : m = 0
   · subst h0
     simp only [Nat.zero_mul, Nat.zero_shiftLeft]
     have : Toward.zero.cut s 0 (-(-(k : Int))).toNat = 0 := by simp [Toward.cut]
     rw [this]; cases s <;> rfl
   · dsimp only
     rw [show (-(k : Int)).toNat = 0 by omega, Nat.shiftLeft_zero, show (-(-(k : Int))).toNat = k by omega, cut_exact _ _ _ _ (by rw [log2_mul_pow m k h0]; omega)]
     cases s <;> simp [signed, numOf]
 unfold floatToIntVal
 rw [e]
 have hb : numOf s m ≤ 4095 ∧ -4095 ≤ numOf s m := by unfold numOf; split <;> omega
 have b1 : IntKind.i64.min ≤ numOf s m := by show (-9223372036854775808 : Int) ≤ _; omega
 have b2 : numOf s m ≤ IntKind.i64.max := by show _ ≤ (9223372036854775807 : Int); omega
 show (if _ then _ else _) = _
 rw [if_pos ⟨b1, b2⟩]
theorem fl_wd (a : Int) : floatOfInt .f64 a = wd (decide (a < 0)) a.natAbs := rfl
end Go.Proofs.YtlmflighkkgikaaGreat
namespace Go.Proofs.YtlmflighkkgikaaGreat


section
variable {P : Program} {ops : Array Oper} {Q : Exit → Act → World → Prop} {md : Region.Mode} {S : World → Prop} {need : Nat → Bool}
def wpAnyN (P : Program) (md : Region.Mode) (ops : Array Oper) (Q : Exit → Act → World → Prop) (S : World → Prop) (need : Nat → Bool) : Nat → Array Bool → Act → World → Prop
 | 0, listed, a, w => Region.ready md ops listed = [] ∧ Q .normal a w
 | fuel + 1, listed, a, w => (Region.ready md ops listed = [] → Q .normal a w) ∧
     ∀ i ∈ Region.ready md ops listed, wpOp P ops Q i (fun a' w' => (need i = true → S w') ∧ wpAnyN P md ops Q S need fuel (listed.setIfInBounds i true) a' w') a w
theorem wpAny_of_N : ∀ (fuel : Nat) (listed : Array Bool) (a : Act) (w : World), wpAnyN P md ops Q S need fuel listed a w → wpAny P md ops Q fuel listed a w
 | 0, _, _, _, h => h
 | fuel + 1, _, _, _, h => ⟨h.1, fun i hi => wpOp_mono (fun a' w' h' => wpAny_of_N fuel _ a' w' h'.2) (h.2 i hi)⟩
theorem wpAnyN_first {i : Nat} {oi : Oper} {v : Value} (hi : ops[i]? = some oi) (hsel : ∀ (j : Nat) (o : Oper) cs b, ops[j]? = some o → o.op ≠ .select cs b)
   (hQ : ∀ c a w, Q (.panic c) (a.put oi.dst v) w → Q (.panic c) a w)
   (hneed : ∀ (j : Nat) (oj : Oper), ops[j]? = some oj → need j = false → ∃ e ∈ oj.after, Region.binds md e = true ∧ e.on = i) :
   ∀ (fuel : Nat) (listed : Array Bool) (a : Act) (w : World),
     (∀ (j : Nat) (oj : Oper), ops[j]? = some oj → j ≠ i → listed.getD j true = false → (∀ e ∈ oj.after, Region.binds md e = true → e.on ≠ i) → oi.apart ops oj = true) →
     i ∈ Region.ready md ops listed → YieldsIf P ops S oi v a → S w →
     wpAnyN P md ops Q S need fuel (listed.setIfInBounds i true) (a.put oi.dst v) w → wpAnyN P md ops Q S need (fuel + 1) listed a w := by
 intro fuel
 induction fuel with
 | zero =>
   intro listed a w _ hr hy hS H
   refine ⟨fun h => (by rw [h] at hr; cases hr), fun j hj => ?_⟩
   by_cases hji : j = i
   · subst hji; exact hy.wpOp hi hS ⟨fun _ => hS, H⟩
   · have hm := ready_mono hj hji
     rw [H.1] at hm
     cases hm
 | succ fuel ih =>
   intro listed a w hfree hr hy hS H
   refine ⟨fun h => (by rw [h] at hr; cases hr), fun j hj => ?_⟩
   by_cases hji : j = i
   · subst hji; exact hy.wpOp hi hS ⟨fun _ => hS, H⟩
   · have hstep := H.2 j (ready_mono hj hji)
     obtain ⟨hun, oj, hoj, hall⟩ := mem_ready.1 hj
     have hwait : ∀ e ∈ oj.after, Region.binds md e = true → e.on ≠ i := by
       intro e he hb heq
       have h1 := hall e he hb
       have h0 := (mem_ready.1 hr).1
       rw [heq] at h1
       rcases Nat.lt_or_ge i listed.size with hs | hs
       · simp [hs] at h0 h1; rw [h0] at h1; cases h1
       · simp [Array.getElem?_eq_none hs] at h1
     have hnj : need j = true := by
       cases hn : need j with
       | true => rfl
       | false =>
         obtain ⟨e, he, hb, ho⟩ := hneed j oj hoj hn
         exact absurd ho (hwait e he hb)
     have hcomm := wpOp_putIf hoj (hfree j oj hoj hji hun hwait) (fun cs b => hsel i oi cs b hi) (fun cs b => hsel j oj cs b hoj) hQ hy hstep
     refine wpOp_mono (fun a' w' h3 => ⟨h3.2.1, ih (listed.setIfInBounds j true) a' w' ?_ (ready_mono hr (Ne.symm hji)) h3.1 (h3.2.1 hnj) ?_⟩) hcomm
     · intro k ok hk hki hunk hno
       refine hfree k ok hk hki ?_ hno
       by_cases hjk : j = k
       · subst hjk; exact hun
       · rw [getD_set_ne true hjk] at hunk; exact hunk
     · rw [Array.setIfInBounds_comm _ _ hji]
       exact h3.2.2
def waitsOn (md : Region.Mode) (o : Oper) (i : Nat) : Bool := o.after.any (fun e => Region.binds md e && e.on == i)
def needOk (md : Region.Mode) (ops : Array Oper) (need : Nat → Bool) (i : Nat) : Bool := (List.range ops.size).all (fun j => need j || (match ops[j]? with | some o => waitsOn md o i | none => true))
theorem needOk_spec {i : Nat} (h : needOk md ops need i = true) : ∀ (j : Nat) (oj : Oper), ops[j]? = some oj → need j = false → ∃ e ∈ oj.after, Region.binds md e = true ∧ e.on = i := by
 intro j oj hj hn
 unfold needOk at h
 rw [List.all_eq_true] at h
 have := h j (List.mem_range.2 (Array.getElem?_eq_some_iff.1 hj).1)
 rw [hn, hj] at this
 simp [waitsOn] at this
 obtain ⟨k, hk, h1, h2⟩ := this
 exact ⟨oj.after[k], by simp, h1, h2⟩
theorem wpAnyN_take {i : Nat} {oi : Oper} {v : Value} {fuel : Nat} {listed : Array Bool} {a : Act} {w : World} (hi : ops[i]? = some oi)
   (hs : Region.noSelect ops = true) (hf : Region.free md ops listed i = true) (hr : (Region.ready md ops listed).contains i = true) (hn : needOk md ops need i = true)
   (hQ : ∀ c a w, Q (.panic c) (a.put oi.dst v) w → Q (.panic c) a w) (hy : YieldsIf P ops S oi v a) (hS : S w)
   (h : wpAnyN P md ops Q S need fuel (listed.setIfInBounds i true) (a.put oi.dst v) w) : wpAnyN P md ops Q S need (fuel + 1) listed a w :=
 wpAnyN_first hi (Region.noSelect_spec hs) hQ (needOk_spec hn) fuel listed a w (Region.free_spec hi hf) (by simpa using hr) hy hS h
theorem wpAnyN_takeD {i : Nat} {oi : Oper} {d : Option Tmp} {v : Value} {fuel : Nat} {listed : Array Bool} {a : Act} {w : World} (hi : ops[i]? = some oi) (hd : (ops[i]?).map (·.dst) = some d)
   (hs : Region.noSelect ops = true) (hf : Region.free md ops listed i = true) (hr : (Region.ready md ops listed).contains i = true) (hn : needOk md ops need i = true)
   (hQ : ∀ c a w, Q (.panic c) (a.put d v) w → Q (.panic c) a w) (hy : YieldsIf P ops S oi v a) (hS : S w)
   (h : wpAnyN P md ops Q S need fuel (listed.setIfInBounds i true) (a.put d v) w) : wpAnyN P md ops Q S need (fuel + 1) listed a w := by
 rw [hi] at hd
 injection hd with hd
 subst hd
 exact wpAnyN_take hi hs hf hr hn hQ hy hS h
theorem wpAnyN_one {i : Nat} {fuel : Nat} {listed : Array Bool} {a : Act} {w : World} (hr : Region.ready md ops listed = [i])
   (h : wpOp P ops Q i (fun a' w' => (need i = true → S w') ∧ wpAnyN P md ops Q S need fuel (listed.setIfInBounds i true) a' w') a w) : wpAnyN P md ops Q S need (fuel + 1) listed a w :=
 ⟨fun h0 => (by rw [hr] at h0; cases h0), fun j hj => (by rw [hr] at hj; simp at hj; subst hj; exact h)⟩
theorem wpAnyN_done {listed : Array Bool} {a : Act} {w : World} (hr : Region.ready md ops listed = []) (h : Q .normal a w) : ∀ fuel, wpAnyN P md ops Q S need fuel listed a w
 | 0 => ⟨hr, h⟩
 | _ + 1 => ⟨fun _ => h, by rw [hr]; simp⟩
theorem wpOp_of {i : Nat} {o : Oper} {K : Act → World → Prop} {a : Act} {w : World} (hi : ops[i]? = some o) (hg : o.guard = none) (h : Oper.wp P o a w K Q) : wpOp P ops Q i K a w := by
 unfold wpOp
 have hw : Region.wanted o (yielded ops a.tmps) = true := by simp [Region.wanted, hg]
 simp only [hi, hw, if_true]
 exact .inl h
theorem wp_of_run {o : Oper} {K : Act → World → Prop} {a : Act} {w w' : World} {v : Value} (hr : (execOp a.eval o).run P w = .ok (.value v) w') (h : K (a.put o.dst v) w') : Oper.wp P o a w K Q := by
 unfold Oper.wp; rw [hr]; exact h
theorem wp_of_skip {o : Oper} {K : Act → World → Prop} {a : Act} {w w' : World} (hr : (execOp a.eval o).run P w = .ok .skip w') (h : K (a.put o.dst undef) w') : Oper.wp P o a w K Q := by
 unfold Oper.wp; rw [hr]; exact h
theorem wp_of_call {o : Oper} {K : Act → World → Prop} {a : Act} {w : World} (f : FuncId) {fn : Func} (hfn : P.funcs[f]? = some fn) (hfn1 : (fn.name == "runtime.NumGoroutine") = false) (hfn2 : fn.body.isNone = false) (xs : Array Operand) (ts : Array TypeId)
   (hop : o.op = Op.call { callee := Callee.value (Operand.func f), args := xs, argTypes := ts }) (vs : Array Value) (hvs : xs.map a.eval = vs) {R : Value → World → Prop} (h : Calls P f vs w fun e w' => ∃ v, e = .returned v ∧ R v w') (hK : ∀ v w', R v w' → K (a.put o.dst v) w') : Oper.wp P o a w K Q := by
 unfold Oper.wp
 subst hvs
 have hrun : (execOp a.eval o).run P w = .ok (.enter f (xs.map a.eval)) w := by
   have e1 : execOp a.eval o = callFunc f (#[] ++ xs.map a.eval ++ #[]) := by
     unfold execOp
     rw [hop]
     rfl
   rw [e1]
   have n1 : ¬ fn.name = "runtime.NumGoroutine" := by simpa using hfn1
   have n2 : ¬ fn.body = none := fun h => by rw [h] at hfn2; simp at hfn2
   simp [callFunc, program, Sem.run, Result.andThen, hfn, n1, n2, go_sem]
 rw [hrun, Oper.upon_enter]
 refine h.mono ?_
 rintro e w' ⟨v, rfl, hR⟩
 exact hK v w' hR
theorem wpOp_is {i : Nat} {d : Option Tmp} {op : Op} {ty : TypeId} {K : Act → World → Prop} {a : Act} {w : World} (hi : (ops[i]?).map (fun o => (o.dst, o.op, o.type, o.guard)) = some (d, op, ty, none))
   (h : ∀ pos after, Oper.wp P ⟨d, op, ty, pos, after, none⟩ a w K Q) : wpOp P ops Q i K a w := by
 cases ho : ops[i]? with
 | none => rw [ho] at hi; cases hi
 | some o =>
   rw [ho] at hi
   obtain ⟨o1, o2, o3, o4, o5, o6⟩ := o
   simp at hi
   obtain ⟨rfl, rfl, rfl, rfl⟩ := hi
   exact wpOp_of ho rfl (h _ _)
theorem wpOp_run {i : Nat} {d : Option Tmp} {op : Op} {ty : TypeId} {v : Value} {K : Act → World → Prop} {a : Act} {w w' : World} (hi : (ops[i]?).map (fun o => (o.dst, o.op, o.type, o.guard)) = some (d, op, ty, none))
   (hr : ∀ pos after, (execOp a.eval ⟨d, op, ty, pos, after, none⟩).run P w = .ok (.value v) w') (h : K (a.put d v) w') : wpOp P ops Q i K a w := by
 cases ho : ops[i]? with
 | none => rw [ho] at hi; cases hi
 | some o =>
   rw [ho] at hi
   obtain ⟨o1, o2, o3, o4, o5, o6⟩ := o
   simp at hi
   obtain ⟨rfl, rfl, rfl, rfl⟩ := hi
   exact wpOp_of ho rfl (wp_of_run (hr _ _) h)
theorem wpOp_skip {i : Nat} {d : Option Tmp} {op : Op} {ty : TypeId} {K : Act → World → Prop} {a : Act} {w w' : World} (hi : (ops[i]?).map (fun o => (o.dst, o.op, o.type, o.guard)) = some (d, op, ty, none))
   (hr : ∀ pos after, (execOp a.eval ⟨d, op, ty, pos, after, none⟩).run P w = .ok .skip w') (h : K (a.put d undef) w') : wpOp P ops Q i K a w := by
 cases ho : ops[i]? with
 | none => rw [ho] at hi; cases hi
 | some o =>
   rw [ho] at hi
   obtain ⟨o1, o2, o3, o4, o5, o6⟩ := o
   simp at hi
   obtain ⟨rfl, rfl, rfl, rfl⟩ := hi
   exact wpOp_of ho rfl (wp_of_skip (hr _ _) h)
theorem wp_region_N {id : Nat} {a : Act} {w : World} (hm : P.follows .mixedOrders = true)
   (h : wpAnyN P .any ops Q S need ops.size (Array.replicate ops.size false) a w.drew) : (Code.region id ops true).wp P Q a w :=
 wp_region_any hm (wpAny_of_N _ _ _ _ h)
end
def maxTo (f : Nat → Int) : Nat → Int
 | 0 => f 0
 | n + 1 => if maxTo f n < f (n + 1) then f (n + 1) else maxTo f n
theorem maxTo_ge (f : Nat → Int) (n : Nat) : ∀ j, j ≤ n → f j ≤ maxTo f n := by
 induction n with
 | zero => intro j hj; have : j = 0 := by omega
           subst this; exact Int.le_refl _
 | succ n ih =>
   intro j hj
   unfold maxTo
   by_cases e : j = n + 1
   · subst e; split <;> omega
   · have := ih j (by omega); split <;> omega
theorem maxTo_is (f : Nat → Int) (n : Nat) : ∃ j, j ≤ n ∧ maxTo f n = f j := by
 induction n with
 | zero => exact ⟨0, Nat.le_refl _, rfl⟩
 | succ n ih =>
   obtain ⟨j, hj, e⟩ := ih
   unfold maxTo
   split
   · exact ⟨n + 1, Nat.le_refl _, rfl⟩
   · exact ⟨j, by omega, e⟩
def topTo (f : Nat → Int) : Nat → Int
 | 0 => 0
 | n + 1 => maxTo f n
theorem topTo_hit (f : Nat → Int) (n : Nat) (h : 0 < n) (e : topTo f n < f n) : topTo f (n + 1) = f n := by
 match n, h, e with
 | k + 1, _, e => have e' : maxTo f k < f (k + 1) := e
                  show maxTo f (k + 1) = _; rw [maxTo, if_pos e']
theorem topTo_miss (f : Nat → Int) (n : Nat) (h : 0 < n) (e : f n ≤ topTo f n) : topTo f (n + 1) = topTo f n := by
 match n, h, e with
 | k + 1, _, e => have e' : f (k + 1) ≤ maxTo f k := e
                  show maxTo f (k + 1) = maxTo f k; rw [maxTo, if_neg (by omega)]
def halved (k : Nat) : Int := 65536 / 2 ^ k
theorem halved_succ (k : Nat) : halved (k + 1) = halved k / 2 := by
 unfold halved
 rw [Int.pow_succ, Int.ediv_ediv_of_nonneg (Int.pow_nonneg (by omega))]
theorem halved_bd (k : Nat) : 0 ≤ halved k ∧ halved k ≤ 65536 := by
 unfold halved
 exact ⟨Int.ediv_nonneg (by omega) (Int.pow_nonneg (by omega)), Int.ediv_le_self _ (by omega)⟩
theorem halved_zero : halved 0 = 65536 := by simp [halved]
def shareOf (d : Int) : Int := halved (min d.toNat 17)
theorem shareOf_bd (d : Int) : 0 ≤ shareOf d ∧ shareOf d ≤ 65536 := halved_bd _
theorem shareOf_zero : shareOf 0 = 65536 := by simp [shareOf, halved_zero]
theorem tdiv_bd {s c b : Int} (hc : 0 ≤ c) (h : -b ≤ s ∧ s ≤ b) : -b ≤ s.tdiv c ∧ s.tdiv c ≤ b := by
 by_cases h0 : 0 ≤ s
 · rw [Int.tdiv_eq_ediv_of_nonneg h0]
   have := Int.ediv_le_self c h0
   have := Int.ediv_nonneg h0 hc
   omega
 · have e : s = -(-s) := by omega
   rw [e, Int.neg_tdiv, Int.tdiv_eq_ediv_of_nonneg (by omega)]
   have := Int.ediv_le_self c (show 0 ≤ -s by omega)
   have := Int.ediv_nonneg (show 0 ≤ -s by omega) hc
   omega
def scoreOf (lo n : Nat) (q : Nat → Int) (k : Nat → Int) : Int := (sumTo (fun i => q (lo + i) * k (lo + i)) n).tdiv 256
theorem scoreOf_bd (lo n : Nat) (q k : Nat → Int) (hn : n ≤ 4) (bq : ∀ j, -4095 ≤ q j ∧ q j ≤ 4095) (bk : ∀ j, -4095 ≤ k j ∧ k j ≤ 4095) : -67076100 ≤ scoreOf lo n q k ∧ scoreOf lo n q k ≤ 67076100 := by
 obtain ⟨h1, h2⟩ := sumTo_bd (f := fun i => q (lo + i) * k (lo + i)) (n := n) (b := 4095 * 4095) (fun i _ => mul_bd (bq _) (bk _))
 unfold scoreOf
 generalize sumTo (fun i => q (lo + i) * k (lo + i)) n = s at h1 h2
 exact tdiv_bd (by omega) ⟨by omega, by omega⟩
def shareAt (p : Nat) (sc : Nat → Int) (t : Nat) : Int := shareOf (maxTo sc p - sc t)
theorem shareAt_bd (p : Nat) (sc : Nat → Int) (t : Nat) : 0 ≤ shareAt p sc t ∧ shareAt p sc t ≤ 65536 := shareOf_bd _
theorem sumTo_ge_one {f : Nat → Int} {n : Nat} (h : ∀ j, 0 ≤ f j) (j : Nat) (hj : j < n) : f j ≤ sumTo f n := by
 induction n with
 | zero => omega
 | succ n ih =>
   simp only [sumTo]
   have hn := h n
   by_cases e : j = n
   · subst e; have := sumTo_nonneg (f := f) (n := j) (fun i _ => h i); omega
   · have := ih (by omega); omega
theorem shares_bd (p n : Nat) (sc : Nat → Int) : 0 ≤ sumTo (shareAt p sc) n ∧ sumTo (shareAt p sc) n ≤ n * 65536 :=
 ⟨sumTo_nonneg (fun j _ => (shareAt_bd p sc j).1), (sumTo_bd (b := 65536) (fun j _ => ⟨by have := (shareAt_bd p sc j).1; omega, (shareAt_bd p sc j).2⟩)).2⟩
theorem shares_pos (p : Nat) (sc : Nat → Int) : 65536 ≤ sumTo (shareAt p sc) (p + 1) := by
 obtain ⟨j, hj, e⟩ := maxTo_is sc p
 have h := sumTo_ge_one (f := shareAt p sc) (n := p + 1) (fun i => (shareAt_bd p sc i).1) j (by omega)
 have h2 : shareAt p sc j = 65536 := by unfold shareAt; rw [e, Int.sub_self, shareOf_zero]
 omega
def headAt (p : Nat) (sc : Nat → Int) (v : Nat → Int) : Int := (sumTo (fun t => shareAt p sc t * v t) (p + 1)).tdiv (sumTo (shareAt p sc) (p + 1))
theorem heads_bd (p n : Nat) (sc v : Nat → Int) (bv : ∀ j, -4095 ≤ v j ∧ v j ≤ 4095) : -(n * 268369920) ≤ sumTo (fun t => shareAt p sc t * v t) n ∧ sumTo (fun t => shareAt p sc t * v t) n ≤ n * 268369920 := by
 have := sumTo_bd (f := fun t => shareAt p sc t * v t) (n := n) (b := 65536 * 4095) (fun j _ => mul_bd ⟨by have := (shareAt_bd p sc j).1; omega, (shareAt_bd p sc j).2⟩ (bv j))
 omega
end Go.Proofs.YtlmflighkkgikaaGreat
namespace Go.Proofs.YtlmflighkkgikaaGreat
open Go.RowKit
theorem owns_base {w : World} {base base' : Nat} {e : TypeId} {size : Nat} {v : Value} {n : Nat} {xs : List Value} (h : w.ownsRow base e size v n xs) (hb : base' ≤ base) : w.ownsRow base' e size v n xs := by
 obtain ⟨h1, h2 | ⟨g, cap, cur, e', hg, rest⟩⟩ := h
 · exact ⟨h1, .inl h2⟩
 · exact ⟨h1, .inr ⟨g, cap, cur, e', Nat.le_trans hb hg, rest⟩⟩
theorem append_stays {P : Program} (w : World) (t ty : TypeId) (base : Nat) (e : TypeId) (i : TypeInfo) (z : Value) (bytes : Nat) (ht : P.underlying t = some (.slice e)) (hi : P.info? e = some i) (hz : i.zero = some z)
   (hsize : i.size = 1) (hby : i.bytes = bytes) (hzs : z.cells.size = 1) (v : Value) (n : Nat) (xs : List Value) (hown : w.ownsRow base e 1 v n xs)
   (ad : Addr) (m c : Nat) (news : List Value) (hl : news.length = m) (hnews : ∀ j u, news[j]? = some u → w.cell? (ad.add j) = some u) (h1 : ∀ u ∈ news, u.oneCell' = true)
   (hm : 0 < m) (h63 : n + m ≤ maxLen) (hbytes : (n + m) * bytes ≤ 140737488355328) (hbase : base ≤ w.heap.size) :
   ∃ g cap w', (Builtin.append_ #[t, t] ty #[v, .slice (some ad) m c]).run P w = .ok (.slice (some ⟨g, 0, none⟩) (n + m) cap) w' ∧
     w'.ownsRow base e 1 (.slice (some ⟨g, 0, none⟩) (n + m) cap) (n + m) (xs ++ news) ∧ w.grownBy w' v.ownBlock ∧ (v.ownBlock = some g ∨ w.heap.size ≤ g) ∧ w'.ownsRow base e 1 v n xs ∧
     (∀ lb cur, v.ownBlock = some lb → w.heap[lb]? = some (.cells cur e (0, 0)) → ∃ cur', w'.heap[lb]? = some (.cells cur' e (0, 0)) ∧ cur'.size = cur.size ∧ ∀ j : Nat, cur'[j]? = cur[j]? ∨ ∃ u ∈ news, cur'[j]? = some u) := by
 have hl' : news.length = m * 1 := by omega
 rcases hown.2 with ⟨rfl, rfl⟩ | ⟨g, cap, cur, rfl, hbg, hg, hnc, hcm, hcs, htake⟩
 · obtain ⟨g, cap, w', hr, h2, h3, h4, _⟩ := run_append_lies (P := P) w t ty base e i z 1 bytes ht hi hz hsize hby hzs (by omega) _ 0 xs hown ad m c news hl' hnews h1 hm h63 hbytes hbase _ rfl
   refine ⟨g, cap, w', hr, h2, h3, ?_, ⟨hown.1, .inl ⟨rfl, rfl⟩⟩, fun lb cur h => by simp [Value.ownBlock] at h⟩
   rcases h4 with h4 | h4
   · simp [Value.ownBlock] at h4
   · exact .inr (by omega)
 · by_cases hroom : n + m ≤ cap
   · have hfit : n * i.size + news.length ≤ cur.size := by rw [hsize]; omega
     have hr := run_append_room (P := P) w t ty e i ht hi g n cap cur hg ad m c news (by rw [hsize]; omega) hnews h1 hroom hfit
     rw [hsize, Nat.mul_one] at hr
     have hlen : (cur.toList.take n ++ news ++ cur.toList.drop (n + news.length)).length = cur.size := by simp; omega
     have hblk := setRow_heap w g cur (cur.toList.take n ++ news ++ cur.toList.drop (n + news.length)).toArray e _ hg
     have htk : cur.toList.take n = xs := by simpa using htake
     refine ⟨g, cap, _, hr, ⟨?_, .inr ⟨g, cap, _, rfl, hbg, hblk, hroom, hcm, by simp; omega, ?_⟩⟩, ⟨rfl, rfl, rfl, by simp, fun k _ hk => setRow_other w g k _ (fun e => hk (by simp [Value.ownBlock, e]))⟩, .inl rfl, ⟨hown.1, .inr ⟨g, cap, _, rfl, hbg, hblk, hnc, hcm, by simp; omega, ?_⟩⟩, fun lb cur' hlb hcur => ?_⟩
     · rw [List.length_append, hown.1, hl]; omega
     · have e1 : (n + m) * 1 = (cur.toList.take n ++ news).length := by rw [List.length_append, htk, hown.1, hl]; omega
       rw [e1]
       simp only []
       rw [List.take_left, htk]
     · have e1 : n * 1 = (cur.toList.take n).length := by rw [htk, hown.1]
       simp only [List.append_assoc]
       rw [e1, List.take_left, htk]
     · simp only [Value.ownBlock] at hlb
       injection hlb with hlb
       subst hlb
       rw [hg] at hcur
       injection hcur with hcur
       injection hcur with hcur _ _
       subst hcur
       refine ⟨_, hblk, by simp; omega, fun j => ?_⟩
       simp only [List.getElem?_toArray, List.append_assoc]
       by_cases hj : j < n
       · left
         rw [List.getElem?_append_left (by simp; omega), List.getElem?_take_of_lt hj]
         simp
       · by_cases hj2 : j < n + m
         · right
           rw [List.getElem?_append_right (by simp; omega), List.getElem?_append_left (by simp; omega)]
           have hlt : j - (cur.toList.take n).length < news.length := by simp; omega
           exact ⟨news[j - (cur.toList.take n).length], by simp, by rw [List.getElem?_eq_getElem hlt]⟩
         · left
           rw [List.getElem?_append_right (by simp; omega), List.getElem?_append_right (by simp; omega), List.getElem?_drop]
           simp
           congr 1
           omega
   · have holds : ∀ j u, xs[j]? = some u → w.cell? ((⟨g, 0, none⟩ : Addr).add j) = some u := hown.cells (g := g) rfl
     obtain ⟨v', w', hr, h2, h3⟩ := run_append_arg_grows (P := P) w t ty e i z 1 bytes ht hi hz hsize hby hzs (by omega) ⟨g, 0, none⟩ n cap xs hown.1 holds ad m c news hl' hnews (by omega) h63 hbytes
     obtain ⟨g', cap', rfl, hb', _⟩ := h2.form (by omega)
     have hk : ∀ k, k < w.heap.size → w'.heap[k]? = w.heap[k]? := fun k hk => h3.block k hk (by simp)
     refine ⟨g', cap', w', hr, owns_base h2 hbase, ⟨h3.os, h3.tape, h3.output, h3.size, fun k hk' _ => hk k hk'⟩, .inr hb', ⟨hown.1, .inr ⟨g, cap, cur, rfl, hbg, by rw [hk g (lt_blk hg)]; exact hg, hnc, hcm, hcs, htake⟩⟩, fun lb cur' hlb hcur => ?_⟩
     exact ⟨cur', by rw [hk lb (lt_blk hcur)]; exact hcur, rfl, fun j => .inl rfl⟩
def heldElem (v : Value) : Option (DataW Value × List MemPlace) := some (.held v, [])
def MapV (P : Program) (k : TypeId) (w : World) (b n : Nat) (M : Int → Option Value) : Prop :=
 ∃ D : DataW Value, w.ownsMap P k heldElem b n D ∧ Maps.size D = n ∧ ∀ x : Int, (Lit.int .i64 x).wf = true → Maps.has D (.int .i64 x) = (M x).isSome ∧ ∀ v, M x = some v → ∀ z, D.atKey (.int .i64 x) z = .held v
section
variable {P : Program} {k e t : TypeId} {w w' : World} {b n : Nat} {M : Int → Option Value}
theorem MapV.obj (h : MapV P k w b n M) : ∃ es clock, w.heap[b]? = some (.map es clock) := by
 obtain ⟨D, ⟨es, clock, hb, _⟩, _⟩ := h
 exact ⟨es, clock, hb⟩
theorem MapV.lt (h : MapV P k w b n M) : b < w.heap.size := by
 obtain ⟨es, clock, hb⟩ := h.obj
 exact lt_blk hb
theorem MapV.keep (h : MapV P k w b n M) (hk : w'.heap[b]? = w.heap[b]?) : MapV P k w' b n M := by
 obtain ⟨D, ⟨es, clock, hb, r⟩, r'⟩ := h
 exact ⟨D, ⟨es, clock, hk.trans hb, r⟩, r'⟩
theorem MapV.made (P : Program) (k : TypeId) (w : World) : MapV P k (w.alloc (.map #[] 0)) w.heap.size 0 (fun _ => none) :=
 ⟨.map [], World.ownsMap_made w P k heldElem, rfl, fun x _ => ⟨rfl, fun v h => by cases h⟩⟩
theorem MapV.look (h : MapV P k w b n M) (hk : P.underlying k = some (.int .i64)) (ht : P.underlying t = some (.map k e)) {z : Value} (hz : (zeroValue e).run P w = .ok z w) (x : Int) (hx : (Lit.int .i64 x).wf = true) :
   (Instr.lookup t (.map (some b)) (.int .i64 x) true).run P w = .ok (.tuple #[(M x).getD z, .bool (M x).isSome]) w := by
 obtain ⟨D, h1, _, h2⟩ := h
 obtain ⟨v, ps, hrun, hv⟩ := h1.look_ok (Maps.int_keyed hk) ht hz (zd := .held z) (zp := []) rfl (Maps.keyOf_int_mk hk hx)
 obtain ⟨g1, g2⟩ := h2 x hx
 rw [hrun, g1]
 unfold heldElem at hv
 cases hm : M x with
 | none =>
   rw [hm] at g1
   rw [Maps.atKey_of_not_has g1] at hv
   simp at hv
   rw [hv.1]; rfl
 | some u =>
   rw [g2 u hm] at hv
   simp at hv
   rw [hv.1]; rfl
theorem MapV.look1 (h : MapV P k w b n M) (hk : P.underlying k = some (.int .i64)) (ht : P.underlying t = some (.map k e)) {z : Value} (hz : (zeroValue e).run P w = .ok z w) (x : Int) (hx : (Lit.int .i64 x).wf = true) :
   (Instr.lookup t (.map (some b)) (.int .i64 x) false).run P w = .ok ((M x).getD z) w := by
 obtain ⟨D, ⟨es, clock, hb, F, _, rfl⟩, _, h2⟩ := h
 obtain ⟨g1, g2⟩ := h2 x hx
 rcases Maps.fit_look false (Maps.int_keyed hk) ht hz hb F (Maps.keyOf_int_mk hk hx) with ⟨hrun, _, hat⟩ | ⟨e0, y, _, _, hrun, hRv, hat, _⟩
 · rw [Maps.has_false_of_atKey hat] at g1
   cases hm : M x with
   | none => simpa using hrun
   | some u => rw [hm] at g1; cases g1
 · rw [Maps.has_true_of_atKey hat] at g1
   cases hm : M x with
   | none => rw [hm] at g1; cases g1
   | some u =>
     have q := g2 u hm (.held z)
     rw [hat (.held z)] at q
     unfold heldElem at hRv
     injection hRv with hRv
     rw [← hRv] at q
     injection q with q
     rw [hrun, q]; rfl
theorem MapV.len (h : MapV P k w b n M) (ht : P.underlying t = some (.map k e)) (ty : TypeId) : (Builtin.len_ #[t] ty #[.map (some b)]).run P w = .ok (.int .i64 n) w := by
 obtain ⟨D, h1, h2, _⟩ := h
 rw [h1.len ht ty, h2]
theorem MapV.tight {D : DataW Value} {m : Nat} (h : w.ownsMap P k heldElem b m D) (hs : Maps.size D = n) : w.ownsMap P k heldElem b n D := by
 obtain ⟨es, clock, hb, F, hle, rfl⟩ := h
 refine ⟨es, clock, hb, F, ?_, rfl⟩
 have e1 := length_read (P := P) (k := k) (R0 := heldElem) es
 rw [← hs, ← e1]
 exact Nat.le_refl _
theorem MapV.store (h : MapV P k w b n M) (hk : P.underlying k = some (.int .i64)) (ht : P.underlying t = some (.map k e)) (hn : n < maxLen) (x : Int) (hx : (Lit.int .i64 x).wf = true) (hM : M x = none) (v : Value) :
   ∃ w', (Instr.mapUpdate t (.map (some b)) (.int .i64 x) v).run P w = .ok () w' ∧ MapV P k w' b (n + 1) (fun y => if y = x then some v else M y) ∧ w.grownBy w' (some b) ∧ w'.heap.size = w.heap.size := by
 obtain ⟨D, h1, h2, h3⟩ := h
 obtain ⟨w', hrun, h4, h5⟩ := h1.store (Maps.int_keyed hk) ht hn (Maps.keyOf_int_mk hk hx) (d := .held v) (ps := []) (val := v) rfl
 have g1 := (h3 x hx).1
 rw [hM] at g1
 refine ⟨w', hrun, ⟨D.put (.int .i64 x) (.held v), h4, ?_, fun y hy => ?_⟩, h5.grown, ?_⟩
 · have := Maps.size_put (k := .int .i64 x) (h1.tidy (Maps.int_keyed hk)) (.held v)
   rw [g1] at this
   simp at this
   omega
 · by_cases e1 : y = x
   · subst e1
     simp only [if_true]
     exact ⟨Maps.has_put_same (k := .int .i64 y) h1.isMap trivial _, fun u hu z => by cases hu; exact Maps.atKey_put_same (k := .int .i64 y) h1.isMap trivial _ _⟩
   · have hne : Lit.int .i64 y ≠ .int .i64 x := fun h => e1 (by injection h)
     simp only [if_neg e1]
     rw [Maps.has_put_other hne]
     exact ⟨(h3 y hy).1, fun u hu z => by rw [Maps.atKey_put_other hne]; exact (h3 y hy).2 u hu z⟩
 · obtain ⟨es, clock, es', clock', hb, rfl⟩ := h5
   simp [ChangeMaps.setBlock]
theorem MapV.over (h : MapV P k w b n M) (hk : P.underlying k = some (.int .i64)) (ht : P.underlying t = some (.map k e)) (hn : n < maxLen) (x : Int) (hx : (Lit.int .i64 x).wf = true) (hM : M x ≠ none) (v : Value) :
   ∃ w', (Instr.mapUpdate t (.map (some b)) (.int .i64 x) v).run P w = .ok () w' ∧ MapV P k w' b n (fun y => if y = x then some v else M y) ∧ w.grownBy w' (some b) ∧ w'.heap.size = w.heap.size := by
 obtain ⟨D, h1, h2, h3⟩ := h
 obtain ⟨w', hrun, h4, h5⟩ := h1.store (Maps.int_keyed hk) ht hn (Maps.keyOf_int_mk hk hx) (d := .held v) (ps := []) (val := v) rfl
 have g1 := (h3 x hx).1
 have g2 : Maps.has D (.int .i64 x) = true := by rw [g1]; cases hm : M x with
   | none => exact absurd hm hM
   | some _ => rfl
 have hsz : Maps.size (D.put (.int .i64 x) (.held v)) = n := by
   have := Maps.size_put (k := .int .i64 x) (h1.tidy (Maps.int_keyed hk)) (.held v)
   rw [g2] at this
   simp at this
   omega
 refine ⟨w', hrun, ⟨D.put (.int .i64 x) (.held v), MapV.tight h4 hsz, hsz, fun y hy => ?_⟩, h5.grown, ?_⟩
 · by_cases e1 : y = x
   · subst e1
     simp only [if_true]
     exact ⟨Maps.has_put_same (k := .int .i64 y) h1.isMap trivial _, fun u hu z => by cases hu; exact Maps.atKey_put_same (k := .int .i64 y) h1.isMap trivial _ _⟩
   · have hne : Lit.int .i64 y ≠ .int .i64 x := fun h => e1 (by injection h)
     simp only [if_neg e1]
     rw [Maps.has_put_other hne]
     exact ⟨(h3 y hy).1, fun u hu z => by rw [Maps.atKey_put_other hne]; exact (h3 y hy).2 u hu z⟩
 · obtain ⟨es, clock, es', clock', hb, rfl⟩ := h5
   simp [ChangeMaps.setBlock]
theorem MapV.drop (h : MapV P k w b (n + 1) M) (hk : P.underlying k = some (.int .i64)) (ht : P.underlying t = some (.map k e)) (ty : TypeId) (x : Int) (hx : (Lit.int .i64 x).wf = true) (hM : M x ≠ none) :
   ∃ w', (Builtin.delete_ #[t, k] ty #[.map (some b), .int .i64 x]).run P w = .ok (.tuple #[]) w' ∧ MapV P k w' b n (fun y => if y = x then none else M y) ∧ w.grownBy w' (some b) ∧ w'.heap.size = w.heap.size := by
 obtain ⟨D, h1, h2, h3⟩ := h
 obtain ⟨w', hrun, h4, h5⟩ := h1.drop (Maps.int_keyed hk) ht (Maps.keyOf_int_mk hk hx) ty
 have g1 := (h3 x hx).1
 have g2 : Maps.has D (.int .i64 x) = true := by rw [g1]; cases hm : M x with
   | none => exact absurd hm hM
   | some _ => rfl
 have hsz : Maps.size (D.del (.int .i64 x)) = n := by
   have := Maps.size_del (k := .int .i64 x) (h1.tidy (Maps.int_keyed hk))
   rw [g2] at this
   simp at this
   omega
 refine ⟨w', hrun, ⟨D.del (.int .i64 x), MapV.tight h4 hsz, hsz, fun y hy => ?_⟩, h5.grown, ?_⟩
 · by_cases e1 : y = x
   · subst e1
     simp only [if_true]
     exact ⟨Maps.has_del_same, fun u hu => by cases hu⟩
   · have hne : Lit.int .i64 y ≠ .int .i64 x := fun h => e1 (by injection h)
     simp only [if_neg e1]
     rw [Maps.has_del_other hne]
     exact ⟨(h3 y hy).1, fun u hu z => by rw [Maps.atKey_del_other hne]; exact (h3 y hy).2 u hu z⟩
 · obtain ⟨es, clock, es', clock', hb, rfl⟩ := h5
   simp [ChangeMaps.setBlock]
end
end Go.Proofs.YtlmflighkkgikaaGreat
namespace Go.Proofs.YtlmflighkkgikaaGreat
section
variable {P : Program} {ops : Array Oper} {Q : Exit → Act → World → Prop} {md : Region.Mode}
def valOf (a : Act) (o : Oper) : Value := match o.dst with | some d => a.tmps.getD d undef | none => undef
structure FrameI (ops : Array Oper) (a0 a : Act) : Prop where
 size : a.tmps.size = a0.tmps.size
 defers : a.defers = a0.defers
 same : ∀ d, (∀ (i : Nat) (o : Oper), ops[i]? = some o → o.dst ≠ some d) → a.tmps[d]? = a0.tmps[d]?
def regionOk (ops : Array Oper) (n : Nat) : Bool :=
 (List.range ops.size).all fun i => match ops[i]? with
   | none => true
   | some o => o.after.all (fun e => decide (e.on < i)) && (match o.dst with | none => true | some d => decide (d < n) && (List.range ops.size).all fun j => (j == i) || (match ops[j]? with | none => true | some oj => !(oj.dst == some d)))
theorem regionOk_spec {n : Nat} (h : regionOk ops n = true) {i : Nat} {o : Oper} (ho : ops[i]? = some o) :
   (∀ e ∈ o.after, e.on < i) ∧ ∀ d, o.dst = some d → d < n ∧ ∀ (j : Nat) (oj : Oper), ops[j]? = some oj → j ≠ i → oj.dst ≠ some d := by
 unfold regionOk at h
 rw [List.all_eq_true] at h
 have h1 := h i (List.mem_range.2 (Array.getElem?_eq_some_iff.1 ho).1)
 rw [ho] at h1
 simp only [Bool.and_eq_true] at h1
 refine ⟨fun e he => ?_, fun d hd => ?_⟩
 · have := Array.all_eq_true'.1 h1.1 e he
   simpa using this
 · have h2 := h1.2
   rw [hd] at h2
   simp only [Bool.and_eq_true, decide_eq_true_eq, List.all_eq_true] at h2
   refine ⟨h2.1, fun j oj hj hne hdj => ?_⟩
   have h3 := h2.2 j (List.mem_range.2 (Array.getElem?_eq_some_iff.1 hj).1)
   rw [hj] at h3
   simp [hne, hdj] at h3
theorem put_size (a : Act) (d : Option Tmp) (v : Value) : (a.put d v).tmps.size = a.tmps.size ∧ (a.put d v).defers = a.defers := by
 cases d <;> simp [Act.put]
theorem put_get (a : Act) (d e : Tmp) (v : Value) : (a.put (some d) v).tmps[e]? = if d = e ∧ e < a.tmps.size then some v else a.tmps[e]? := by
 simp only [Act.put, Array.getElem?_setIfInBounds]
 by_cases h : d = e
 · subst h
   by_cases h2 : d < a.tmps.size
   · simp [h2]
   · simp [h2]
 · simp [h]
def lastOk (md : Region.Mode) (ops : Array Oper) (z : Nat) : Bool :=
 decide (z < ops.size) && (match ops[z]? with | none => false | some o => (List.range ops.size).all fun j => (j == z) || waitsOn md o j || (List.range ops.size).any fun k => waitsOn md o k && (match ops[k]? with | none => false | some ok => waitsOn md ok j))
theorem waitsOn_spec {o : Oper} {j : Nat} (h : waitsOn md o j = true) : ∃ e ∈ o.after, Region.binds md e = true ∧ e.on = j := by
 unfold waitsOn at h
 rw [Array.any_eq_true] at h
 obtain ⟨k, hk, h1⟩ := h
 simp only [Bool.and_eq_true, beq_iff_eq] at h1
 exact ⟨o.after[k], by simp, h1.1, h1.2⟩
theorem lastOk_spec {z : Nat} (h : lastOk md ops z = true) : z < ops.size ∧ ∀ o, ops[z]? = some o → ∀ j, j < ops.size → j ≠ z →
   (∃ e ∈ o.after, Region.binds md e = true ∧ e.on = j) ∨ ∃ e ∈ o.after, Region.binds md e = true ∧ ∃ ok, ops[e.on]? = some ok ∧ ∃ e' ∈ ok.after, Region.binds md e' = true ∧ e'.on = j := by
 unfold lastOk at h
 simp only [Bool.and_eq_true, decide_eq_true_eq] at h
 refine ⟨h.1, fun o ho j hj hne => ?_⟩
 have h2 := h.2
 rw [ho] at h2
 simp only [List.all_eq_true, List.mem_range] at h2
 have h3 := h2 j hj
 simp only [Bool.or_eq_true, beq_iff_eq, List.any_eq_true, Bool.and_eq_true, List.mem_range] at h3
 rcases h3 with (h3 | h3) | ⟨k, hk, h4, h5⟩
 · exact absurd h3 hne
 · exact .inl (waitsOn_spec h3)
 · right
   obtain ⟨e, he, hb, hon⟩ := waitsOn_spec h4
   cases ho2 : ops[k]? with
   | none => rw [ho2] at h5; cases h5
   | some ok =>
     rw [ho2] at h5
     exact ⟨e, he, hb, ok, by rw [hon]; exact ho2, waitsOn_spec h5⟩
variable {Spec : Nat → Value → World → Prop} {I : Bool → World → Prop} {a0 : Act} {z : Nat}
theorem wpAny_specs (hok : regionOk ops a0.tmps.size = true) (hlast : lastOk md ops z = true)
   (hstep : ∀ (i : Nat) (o : Oper), ops[i]? = some o → ∀ (a : Act) (w : World), FrameI ops a0 a → I false w → (∀ e ∈ o.after, Region.binds md e = true → ∀ oe, ops[e.on]? = some oe → Spec e.on (valOf a oe) w) →
     ∀ K : Act → World → Prop, (∀ v w', I (i == z) w' → (o.dst = none → v = undef) → Spec i v w' → (∀ j u, j ≠ i → Spec j u w → Spec j u w') → K (a.put o.dst v) w') → wpOp P ops Q i K a w)
   (hend : ∀ (a : Act) (w : World), FrameI ops a0 a → I true w → (∀ (i : Nat) (o : Oper), ops[i]? = some o → Spec i (valOf a o) w) → Q .normal a w) :
   ∀ (fuel : Nat) (listed : Array Bool) (a : Act) (w : World), listed.size = ops.size → listed.toList.count false ≤ fuel → FrameI ops a0 a → I (listed.getD z false) w → (listed.getD z false = true → ∀ i, i < ops.size → listed[i]? = some true) →
     (∀ (k : Nat) (ok : Oper), ops[k]? = some ok → listed[k]? = some true → ∀ e ∈ ok.after, Region.binds md e = true → listed[e.on]? = some true) →
     (∀ (i : Nat) (o : Oper), ops[i]? = some o → listed[i]? = some true → Spec i (valOf a o) w) → wpAny P md ops Q fuel listed a w := by
 have allOf : ∀ (listed : Array Bool), listed.size = ops.size → Region.ready md ops listed = [] → ∀ i, i < ops.size → listed[i]? = some true := by
   intro listed hsz hr i
   induction i using Nat.strongRecOn with
   | _ i ih =>
     intro hi
     have hli : listed[i]? = some listed[i] := Array.getElem?_eq_getElem (by omega)
     cases hb : listed[i] with
     | true => rw [hli, hb]
     | false =>
       exfalso
       have ho : ops[i]? = some ops[i] := Array.getElem?_eq_getElem hi
       have hm : i ∈ Region.ready md ops listed := by
         refine mem_ready.2 ⟨by simp [hli, hb], ops[i], ho, fun e he _ => ?_⟩
         have hlt := (regionOk_spec hok ho).1 e he
         have := ih e.on hlt (by omega)
         simp [this]
       rw [hr] at hm
       cases hm
 intro fuel
 induction fuel with
 | zero =>
   intro listed a w hsz hcnt hF hI hz hcl hS
   have hall : ∀ i, i < ops.size → listed[i]? = some true := by
     intro i hi
     have hli : listed[i]? = some listed[i] := Array.getElem?_eq_getElem (by omega)
     cases hb : listed[i] with
     | true => rw [hli, hb]
     | false =>
       exfalso
       have : false ∈ listed.toList := by rw [← hb]; simp
       have := List.count_pos_iff.2 this
       omega
   have hzt : listed.getD z false = true := by rw [Array.getD_eq_getD_getElem?, hall z (lastOk_spec hlast).1]; rfl
   rw [hzt] at hI
   refine ⟨?_, hend a w hF hI (fun i o ho => hS i o ho (hall i (Array.getElem?_eq_some_iff.1 ho).1))⟩
   cases hr : Region.ready md ops listed with
   | nil => rfl
   | cons j r =>
     have hj : j ∈ Region.ready md ops listed := by rw [hr]; simp
     obtain ⟨hun, o, ho, _⟩ := mem_ready.1 hj
     have := hall j (Array.getElem?_eq_some_iff.1 ho).1
     simp [this] at hun
 | succ fuel ih =>
   intro listed a w hsz hcnt hF hI hz hcl hS
   refine ⟨fun hr => hend a w hF (by rw [Array.getD_eq_getD_getElem?, allOf listed hsz hr z (lastOk_spec hlast).1] at hI; exact hI) (fun i o ho => hS i o ho (allOf listed hsz hr i (Array.getElem?_eq_some_iff.1 ho).1)), fun i hi => ?_⟩
   obtain ⟨hun, o, ho, hall⟩ := mem_ready.1 hi
   have hil := (Array.getElem?_eq_some_iff.1 ho).1
   have hli : listed[i]? = some false := by
     have : listed[i]? = some listed[i] := Array.getElem?_eq_getElem (by omega)
     cases hb : listed[i] with
     | true => rw [Array.getD_eq_getD_getElem?, this, hb] at hun; simp at hun
     | false => rw [this, hb]
   have hzf : listed.getD z false = false := by
     cases hb : listed.getD z false with
     | false => rfl
     | true => have := hz hb i hil; rw [hli] at this; cases this
   rw [hzf] at hI
   refine hstep i o ho a w hF hI (fun e he hb oe hoe => hS e.on oe hoe ?_) _ ?_
   · have h1 := hall e he hb
     have hlt := (regionOk_spec hok ho).1 e he
     have h2 : listed[e.on]? = some listed[e.on] := Array.getElem?_eq_getElem (by omega)
     rw [Array.getD_eq_getD_getElem?, h2] at h1
     rw [h2]
     simpa using h1
   · intro v w' hI' hv hSi hkeep
     have hzn : (listed.setIfInBounds i true).getD z false = (i == z) := by
       rw [Array.getD_eq_getD_getElem?]
       by_cases hiz : i = z
       · subst hiz; simp [hsz, hil]
       · rw [Array.getElem?_setIfInBounds_ne hiz, ← Array.getD_eq_getD_getElem?, hzf]; simp [hiz]
     refine ih _ _ w' (by simpa using hsz) ?_ ?_ (by rw [hzn]; exact hI') ?_ ?_ ?_
     · rw [Array.toList_setIfInBounds, List.count_set]
       have h3 : listed.toList[i]? = some false := by simpa using hli
       have h4 : i < listed.toList.length := by simp; omega
       have h5 : listed.toList[i] = false := by
         rw [List.getElem?_eq_getElem h4] at h3; injection h3
       have h6 : 0 < listed.toList.count false := List.count_pos_iff.2 (by rw [← h5]; simp)
       · simp [h5]
         simp at hcnt h6
         omega
       · simp; omega
     · refine ⟨by rw [(put_size _ _ _).1]; exact hF.size, by rw [(put_size _ _ _).2]; exact hF.defers, fun d hd => ?_⟩
       have := hd i o ho
       cases hdo : o.dst with
       | none => simp [Act.put]; exact hF.same d hd
       | some d' =>
         rw [put_get, if_neg (fun h => this (by rw [hdo, h.1]))]
         exact hF.same d hd
     · intro hzt j hj
       rw [hzn] at hzt
       have hiz : i = z := by simpa using hzt
       subst hiz
       by_cases hji : j = i
       · subst hji; simp [hsz, hil]
       · rw [Array.getElem?_setIfInBounds_ne (fun e => hji e.symm)]
         have lst : ∀ e ∈ o.after, Region.binds md e = true → listed[e.on]? = some true := fun e he hb => by
           have h1 := hall e he hb
           have hlt := (regionOk_spec hok ho).1 e he
           have h2 : listed[e.on]? = some listed[e.on] := Array.getElem?_eq_getElem (by omega)
           rw [Array.getD_eq_getD_getElem?, h2] at h1
           rw [h2]; simpa using h1
         rcases (lastOk_spec hlast).2 o ho j hj hji with ⟨e, he, hb, hon⟩ | ⟨e, he, hb, ok, hok2, e', he', hb', hon'⟩
         · rw [← hon]; exact lst e he hb
         · rw [← hon']; exact hcl e.on ok hok2 (lst e he hb) e' he' hb'
     · intro k ok hk hlk e he hb
       by_cases hki : k = i
       · subst hki
         rw [ho] at hk
         injection hk with hk
         subst hk
         have h1 := hall e he hb
         have hlt := (regionOk_spec hok ho).1 e he
         have h2 : listed[e.on]? = some listed[e.on] := Array.getElem?_eq_getElem (by omega)
         rw [Array.getElem?_setIfInBounds_ne (by omega)]
         rw [Array.getD_eq_getD_getElem?, h2] at h1
         rw [h2]; simpa using h1
       · rw [Array.getElem?_setIfInBounds_ne (fun e => hki e.symm)] at hlk
         have h1 := hcl k ok hk hlk e he hb
         by_cases hei : e.on = i
         · rw [hei] at h1; rw [hli] at h1; cases h1
         · rw [Array.getElem?_setIfInBounds_ne (fun e' => hei e'.symm)]; exact h1
     · intro j oj hoj hlj
       by_cases hji : j = i
       · subst hji
         rw [ho] at hoj
         injection hoj with hoj
         subst hoj
         cases hdo : o.dst with
         | none =>
           have e1 : valOf (a.put o.dst v) o = undef := by unfold valOf; rw [hdo]
           rw [hdo] at e1
           rw [e1, ← hv hdo]; exact hSi
         | some d' =>
           have hd' := ((regionOk_spec hok ho).2 d' hdo).1
           have e1 : valOf (a.put (some d') v) o = v := by
             unfold valOf
             rw [hdo]
             simp only []
             rw [Array.getD_eq_getD_getElem?, put_get, if_pos ⟨rfl, by rw [hF.size]; exact hd'⟩]
             rfl
           rw [e1]; exact hSi
       · have hlj' : listed[j]? = some true := by
           rw [Array.getElem?_setIfInBounds_ne (fun e => hji e.symm)] at hlj; exact hlj
         refine hkeep j _ hji ?_
         have e1 : valOf (a.put o.dst v) oj = valOf a oj := by
           unfold valOf
           cases hdj : oj.dst with
           | none => rfl
           | some dj =>
             simp only []
             rw [Array.getD_eq_getD_getElem?, Array.getD_eq_getD_getElem?]
             cases hdo : o.dst with
             | none => simp [Act.put]
             | some d' =>
               rw [put_get, if_neg (fun h => ((regionOk_spec hok hoj).2 dj hdj).2 i o ho (fun e => hji e.symm) (by rw [hdo, h.1]))]
         rw [e1]
         exact hS j oj hoj hlj'
def noDst (ops : Array Oper) (d : Nat) : Bool := (List.range ops.size).all fun i => match ops[i]? with | none => true | some o => !(o.dst == some d)
theorem frame_eval {a : Act} (hF : FrameI ops a0 a) {d : Nat} (hn : noDst ops d = true) : a.eval (.tmp d) = a0.eval (.tmp d) := by
 have h := hF.same d (fun i o ho hd => by
   unfold noDst at hn
   rw [List.all_eq_true] at hn
   have := hn i (List.mem_range.2 (Array.getElem?_eq_some_iff.1 ho).1)
   rw [ho] at this
   simp [hd] at this)
 simp only [Act.eval]
 rw [Array.getD_eq_getD_getElem?, Array.getD_eq_getD_getElem?, h]
theorem dep_eval {o : Oper} {a : Act} {w : World} (hdep : ∀ e ∈ o.after, Region.binds md e = true → ∀ oe, ops[e.on]? = some oe → Spec e.on (valOf a oe) w) {j dj : Nat} (hw : waitsOn md o j = true) (hd : (ops[j]?).map (·.dst) = some (some dj)) : Spec j (a.eval (.tmp dj)) w := by
 unfold waitsOn at hw
 rw [Array.any_eq_true] at hw
 obtain ⟨k, hk, h1⟩ := hw
 simp only [Bool.and_eq_true, beq_iff_eq] at h1
 cases ho : ops[j]? with
 | none => rw [ho] at hd; cases hd
 | some oj =>
   rw [ho] at hd
   simp at hd
   have := hdep o.after[k] (by simp) h1.1 oj (by rw [h1.2]; exact ho)
   rw [h1.2] at this
   unfold valOf at this
   rw [hd] at this
   exact this
theorem dep_at {o : Oper} {a : Act} {w : World} {i : Nat} (ho : ops[i]? = some o) (hdep : ∀ e ∈ o.after, Region.binds md e = true → ∀ oe, ops[e.on]? = some oe → Spec e.on (valOf a oe) w) {j dj : Nat}
   (hw : (ops[i]?).map (fun o => waitsOn md o j) = some true) (hd : (ops[j]?).map (·.dst) = some (some dj)) : Spec j (a.eval (.tmp dj)) w := by
 rw [ho] at hw
 exact dep_eval hdep (by simpa using hw) hd
theorem dst_ne {o : Oper} {i d : Nat} (ho : ops[i]? = some o) (hd : (ops[i]?).map (·.dst) = some (some d)) {A : Prop} (h : o.dst = none) : A := by
 rw [ho] at hd
 simp [h] at hd
theorem spec_run {i : Nat} {d : Option Tmp} {op : Op} {ty : TypeId} {v : Value} {K : Act → World → Prop} {o : Oper} {a : Act} {w w' : World} (ho : ops[i]? = some o) (hi : (ops[i]?).map (fun o => (o.dst, o.op, o.type, o.guard)) = some (d, op, ty, none))
   (hr : ∀ pos after, (execOp a.eval ⟨d, op, ty, pos, after, none⟩).run P w = .ok (.value v) w') (h : K (a.put o.dst v) w') : wpOp P ops Q i K a w := by
 rw [ho] at hi
 obtain ⟨o1, o2, o3, o4, o5, o6⟩ := o
 simp at hi
 obtain ⟨rfl, rfl, rfl, rfl⟩ := hi
 exact wpOp_of ho rfl (wp_of_run (hr _ _) h)
theorem spec_skip {i : Nat} {d : Option Tmp} {op : Op} {ty : TypeId} {K : Act → World → Prop} {o : Oper} {a : Act} {w w' : World} (ho : ops[i]? = some o) (hi : (ops[i]?).map (fun o => (o.dst, o.op, o.type, o.guard)) = some (d, op, ty, none))
   (hr : ∀ pos after, (execOp a.eval ⟨d, op, ty, pos, after, none⟩).run P w = .ok .skip w') (h : K (a.put o.dst undef) w') : wpOp P ops Q i K a w := by
 rw [ho] at hi
 obtain ⟨o1, o2, o3, o4, o5, o6⟩ := o
 simp at hi
 obtain ⟨rfl, rfl, rfl, rfl⟩ := hi
 exact wpOp_of ho rfl (wp_of_skip (hr _ _) h)
theorem wp_region_specs {id : Nat} {w : World} (hm : P.follows .mixedOrders = true) (hok : regionOk ops a0.tmps.size = true) (hlast : lastOk .any ops z = true)
   (hstep : ∀ (i : Nat) (o : Oper), ops[i]? = some o → ∀ (a : Act) (w : World), FrameI ops a0 a → I false w → (∀ e ∈ o.after, Region.binds .any e = true → ∀ oe, ops[e.on]? = some oe → Spec e.on (valOf a oe) w) →
     ∀ K : Act → World → Prop, (∀ v w', I (i == z) w' → (o.dst = none → v = undef) → Spec i v w' → (∀ j u, j ≠ i → Spec j u w → Spec j u w') → K (a.put o.dst v) w') → wpOp P ops Q i K a w)
   (hend : ∀ (a : Act) (w : World), FrameI ops a0 a → I true w → (∀ (i : Nat) (o : Oper), ops[i]? = some o → Spec i (valOf a o) w) → Q .normal a w) (hI : I false w.drew) :
   (Code.region id ops true).wp P Q a0 w := by
 have hz := (lastOk_spec hlast).1
 have hz0 : (Array.replicate ops.size false).getD z false = false := by simp [Array.getD_eq_getD_getElem?, hz]
 exact wp_region_any hm (wpAny_specs hok hlast hstep hend ops.size _ a0 _ (by simp) (by simp) ⟨rfl, rfl, fun _ _ => rfl⟩ (by rw [hz0]; exact hI) (fun h => by rw [hz0] at h; cases h) (fun k ok hk hl => by
   have := (Array.getElem?_eq_some_iff.1 hk).1
   simp [this] at hl) (fun i o ho hl => by
   have := (Array.getElem?_eq_some_iff.1 ho).1
   simp [this] at hl))
end
end Go.Proofs.YtlmflighkkgikaaGreat
namespace Go.Proofs.YtlmflighkkgikaaGreat
open Go.RowKit
theorem Tryz.info_int : (Tryz.prog.info? 3).map (fun i => (i.zero, i.size, i.bytes)) = some (some (.int .i64 0), 1, 8) := by kernel_rfl
def mulAt (W : Nat → Int) (start m : Nat) (v : Nat → Int) (i : Nat) : Int := cutI ((sumTo (fun j => W (start + i * m + j) * v j) m).tdiv 8)
set_option maxHeartbeats 1000000 in
theorem reftimes_any (d start rows nW m : Nat) (vW vv : Value) (W v : Nat → Int) (w : World)
   (hd : d < w.heap.size) (hcW : w.cell? ⟨d, 7, none⟩ = some vW) (hW : Ints w vW nW W) (hv : Ints w vv m v) (hfit : start + rows * m ≤ nW)
   (hn : nW ≤ 100000) (hm : m ≤ 100) (hr : rows ≤ 100) (bW : ∀ j, -8 ≤ W j ∧ W j ≤ 8) (bv : ∀ j, -4095 ≤ v j ∧ v j ≤ 4095) :
   Calls Tryz.prog 79 #[.pointer (some ⟨d, 0, none⟩), .int .i64 start, .int .i64 rows, vv] w fun e w' =>
     ∃ r, e = .returned r ∧ w'.ownsRow w.heap.size 3 1 r rows ((List.range rows).map fun i => .int .i64 (mulAt W start m v i)) ∧ Below w.heap.size w w' := by
 obtain ⟨i0, hi, hz0, hz1, hz2⟩ := info_parts Tryz.info_int
 obtain ⟨aW, cW, rfl, hW1, hW2, hW3⟩ := hW
 obtain ⟨av, cv, rfl, hv1, hv2, hv3⟩ := hv
 go_enter Tryz.func79, Tryz.ntmps79
 go_wp2
 go_loopw [9, 10] (fun o i wr => ∃ k : Nat, k ≤ rows ∧ i = .int .i64 k ∧ wr.ownsRow w.heap.size 3 1 o k ((List.range k).map fun i => .int .i64 (mulAt W start m v i)) ∧ Below w.heap.size w wr) (fun _ i _ => rows - (intOf i).toNat)
 case atStart => exact ⟨0, Nat.zero_le _, rfl, World.ownsRow_nil _ _ _ _, Below.refl _ _⟩
 case round =>
   obtain ⟨k, hk, rfl, hown, hbel⟩ := hrel
   by_cases hlt : k < rows
   · have hkm : k * m + m ≤ rows * m := by
       have := Nat.mul_le_mul_right m (show k + 1 ≤ rows from hlt)
       rw [Nat.add_mul] at this; omega
     go_wp2
     go_loopw [11, 12] (fun s i wi => ∃ j : Nat, j ≤ m ∧ i = .int .i64 j ∧ s = .int .i64 (sumTo (fun j => W (start + k * m + j) * v j) j) ∧ ∃ q, wi = wr.drewN q) (fun _ i _ => m - (intOf i).toNat)
     case atStart => exact ⟨0, Nat.zero_le _, rfl, rfl, 0, rfl⟩
     case round =>
       obtain ⟨j, hj, rfl, rfl, q, rfl⟩ := hrel
       obtain ⟨hs1, hs2⟩ := sumTo_bd (f := fun j => W (start + k * m + j) * v j) (n := j) (b := 8 * 4095) (fun i _ => mul_bd (bW _) (bv _))
       obtain ⟨hp1, hp2⟩ := mul_bd (bW (start + k * m + j)) (bv j)
       by_cases hjl : j < m
       · obtain ⟨bv', ov, rfl, hbv, hcv⟩ := hv3 (by omega)
         obtain ⟨bw', ow, rfl, hbw, hcw⟩ := hW3 (by omega)
         have c1 := (hbel.cell (p := ⟨bv', ov + j, none⟩) hbv).trans (hcv j hjl)
         have c2 := (hbel.cell (p := ⟨bw', ow + (start + k * m + j), none⟩) hbw).trans (hcw (start + k * m + j) (by omega))
         have c3 := (hbel.cell (p := ⟨d, 7, none⟩) hd).trans hcW
         clear hcv hcw hv3 hW3 hcW
         go_wp2
         go_quiet (fail)
         go_wp2
         go_roundw
         case rel => exact ⟨j + 1, by omega, by go_num, rfl, _, rfl⟩
         case measure => simp [intOf]; omega
       · have hjm : m = j := by omega
         subst hjm
         go_wp2_with fail
         refine (refcut_any _ _).mono ?_
         rintro e w1 ⟨rfl, rfl⟩
         go_wp2_with (at_builtin; refine wpList_append_own _ rfl _ _ 36 rfl w.heap.size 3 i0 (.int .i64 0) 1 8 Tryz.underlying36 hi hz0 hz1 hz2 rfl (by decide) _ _ _ rfl ((owns_drewN hown q).alloc _) ⟨wr.heap.size, 0, none⟩ 1 1 [.int .i64 (mulAt W start m v k)] rfl rfl ?c1 ?c2 ?c3 ?c4 ?c5 ?_)
         case c1 => exact one_new (wr.drewN q) _ _
         case c2 => exact one_int _
         case c3 => unfold maxLen; omega
         case c4 => omega
         case c5 => have := hbel.size; simp; omega
         intro v' w1 hown' hgrow _
         have hbel' : Below w.heap.size w w1 := ((below_drewN hbel q).alloc (by have := hbel.size; simp; omega) _).grown hgrow (by have := hbel.size; simp; omega) (fun g hg => (hown.lt g hg).1)
         rw [← range_map_succ (fun i => Value.int .i64 (mulAt W start m v i))] at hown'
         clear hown hgrow
         go_wp2
         go_roundw
         case rel => exact ⟨k + 1, by omega, by go_num, hown', hbel'⟩
         case measure => simp [intOf]; omega
   · go_wp2
     have hkr : k = rows := by omega
     subst hkr
     go_ret
     exact ⟨_, rfl, hown, hbel⟩
end Go.Proofs.YtlmflighkkgikaaGreat
