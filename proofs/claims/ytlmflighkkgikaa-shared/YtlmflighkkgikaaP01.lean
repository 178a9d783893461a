import Derived.Test.YtlmflighkkgikaaProg
import Derived.WalkKit
import Derived.WalkSpells
import Derived.WalkLawsBesides
import Derived.WalkSmall
import Derived.Deep.Draws
import Derived.KernelRfl
import Derived.Deep.RegionLaw

namespace Go.Proofs.Ytlmflighkkgikaa
open Go.RowKit
def cutI (x : Int) : Int := if 4095 < x then 4095 else if x < -4095 then -4095 else x
theorem cutI_bd (x : Int) : -4095 ≤ cutI x ∧ cutI x ≤ 4095 := by unfold cutI; omega
theorem ret_int {k : IntKind} {a b : Int} (h : a = b) : Ending.returned (.int k a) = .returned (.int k b) := by rw [h]
theorem cut_any (x : Int) (w : World) :
   Calls Try.prog 75 #[.int .i64 x] w fun e w' => e = .returned (.int .i64 (cutI x)) ∧ w' = w := by
 go_enter Try.func75, Try.ntmps75
 go_wp2
 all_goals go_ret
 all_goals refine ⟨ret_int ?_, rfl⟩
 all_goals (unfold cutI; omega)
def pickI (c : Int) (n : Int) : Int := if c < 0 then (-(c + 1)).tmod n else c.tmod n
theorem within_any (n a b : Int) (w : World) :
   Calls Try.prog 48 #[.int .i64 n, .int .i64 a, .int .i64 b] w fun e w' => e = .returned (.bool (decide (a ≤ n ∧ n ≤ b))) ∧ w' = w := by
 go_enter Try.func48, Try.ntmps48
 go_wp2
 all_goals go_ret
 all_goals refine ⟨?_, rfl⟩
 all_goals simp [*]
 all_goals omega
def sumTo (f : Nat → Int) : Nat → Int
 | 0 => 0
 | n + 1 => sumTo f n + f n
theorem sumTo_bd {f : Nat → Int} {n : Nat} {b : Int} (h : ∀ j, j < n → -b ≤ f j ∧ f j ≤ b) : -(n * b) ≤ sumTo f n ∧ sumTo f n ≤ n * b := by
 induction n with
 | zero => simp [sumTo]
 | succ n ih =>
   have h1 := ih (fun j hj => h j (by omega))
   have h2 := h n (by omega)
   simp only [sumTo]
   have e : ((n + 1 : Nat) : Int) * b = n * b + b := by rw [Int.natCast_add, Int.add_mul]; simp
   rw [e]; omega
theorem sumTo_nonneg {f : Nat → Int} {n : Nat} (h : ∀ j, j < n → 0 ≤ f j) : 0 ≤ sumTo f n := by
 induction n with
 | zero => simp [sumTo]
 | succ n ih =>
   have h1 := ih (fun j hj => h j (by omega))
   have h2 := h n (by omega)
   simp only [sumTo]; omega
theorem mul_bd {a b x y : Int} (ha : -x ≤ a ∧ a ≤ x) (hb : -y ≤ b ∧ b ≤ y) : -(x * y) ≤ a * b ∧ a * b ≤ x * y := by
 have h1 : a.natAbs * b.natAbs ≤ x.natAbs * y.natAbs := Nat.mul_le_mul (by omega) (by omega)
 rw [← Int.natAbs_mul, ← Int.natAbs_mul] at h1
 have h2 : 0 ≤ x * y := Int.mul_nonneg (by omega) (by omega)
 omega
def Row (w : World) (v : Value) (n : Nat) (f : Nat → Value) : Prop :=
 ∃ a c, v = .slice a n c ∧ n ≤ c ∧ c ≤ maxLen ∧ (0 < n → ∃ b off, a = some ⟨b, off, none⟩ ∧ b < w.heap.size ∧ ∀ j, j < n → w.cell? ⟨b, off + j, none⟩ = some (f j))
def Ints (w : World) (v : Value) (n : Nat) (g : Nat → Int) : Prop := Row w v n (fun j => .int .i64 (g j))
theorem Row.congr {w : World} {v : Value} {n : Nat} {f g : Nat → Value} (h : Row w v n f) (e : ∀ j, j < n → f j = g j) : Row w v n g := by
 obtain ⟨a, c, rfl, h1, h2, h3⟩ := h
 refine ⟨a, c, rfl, h1, h2, fun hn => ?_⟩
 obtain ⟨b, off, rfl, hb, hc⟩ := h3 hn
 exact ⟨b, off, rfl, hb, fun j hj => by rw [hc j hj, e j hj]⟩
theorem Ints.congr {w : World} {v : Value} {n : Nat} {f g : Nat → Int} (h : Ints w v n f) (e : ∀ j, j < n → f j = g j) : Ints w v n g :=
 Row.congr h (fun j hj => by rw [e j hj])
theorem Row.below {w w' : World} {v : Value} {n : Nat} {f : Nat → Value} (h : Row w v n f) (hb : Below w.heap.size w w') : Row w' v n f := by
 obtain ⟨a, c, rfl, h1, h2, h3⟩ := h
 refine ⟨a, c, rfl, h1, h2, fun hn => ?_⟩
 obtain ⟨b, off, rfl, hlt, hc⟩ := h3 hn
 exact ⟨b, off, rfl, Nat.lt_of_lt_of_le hlt hb.size, fun j hj => by rw [hb.cell (p := ⟨b, off + j, none⟩) hlt]; exact hc j hj⟩
theorem Ints.below {w w' : World} {v : Value} {n : Nat} {f : Nat → Int} (h : Ints w v n f) (hb : Below w.heap.size w w') : Ints w' v n f := Row.below h hb
theorem Row.of_owns {w : World} {base : Nat} {e : TypeId} {v : Value} {n : Nat} {f : Nat → Value} (h : w.ownsRow base e 1 v n ((List.range n).map f)) : Row w v n f := by
 obtain ⟨_, ⟨rfl, rfl⟩ | ⟨g, cap, cur, rfl, hb, hg, hn, hm, hs, ht⟩⟩ := h
 · exact ⟨none, 0, rfl, Nat.le_refl _, by simp [maxLen], fun h => absurd h (by omega)⟩
 · refine ⟨_, cap, rfl, hn, hm, fun _ => ⟨g, 0, rfl, (Array.getElem?_eq_some_iff.1 hg).1, fun j hj => ?_⟩⟩
   have h1 : cur.toList[j]? = some (f j) := by
     have := congrArg (fun l => l[j]?) ht
     simp [hj] at this
     simpa using this
   simp [World.cell?, hg]
   simpa using h1
theorem range_map_succ {α : Type} (f : Nat → α) (n : Nat) : (List.range (n + 1)).map f = (List.range n).map f ++ [f n] := by simp [List.range_succ]
theorem wrap_in {x : Int} (h1 : -9223372036854775808 ≤ x) (h2 : x ≤ 9223372036854775807) : IntKind.i64.wrap x = x := by
 rw [IntKind.wrap_i64]; omega
theorem cell_blk {w : World} {b : Nat} {arr : Array Value} {t : TypeId} {fr : Nat × Nat} (h : w.heap[b]? = some (.cells arr t fr)) (i : Nat) : w.cell? ⟨b, i, none⟩ = arr[i]? := by
 simp [World.cell?, h]
theorem frozen_blk {w : World} {b : Nat} {arr : Array Value} {t : TypeId} (h : w.heap[b]? = some (.cells arr t (0, 0))) (i : Nat) : w.frozen? ⟨b, i, none⟩ = false := by
 simp [World.frozen?, h]
theorem lt_blk {w : World} {b : Nat} {o : Obj} (h : w.heap[b]? = some o) : b < w.heap.size := (Array.getElem?_eq_some_iff.1 h).1
theorem setCell_blk {w : World} {b : Nat} {arr : Array Value} {t : TypeId} {fr : Nat × Nat} (h : w.heap[b]? = some (.cells arr t fr)) (i : Nat) (v : Value) :
   (w.setCell ⟨b, i, none⟩ v).heap[b]? = some (.cells (arr.setIfInBounds i v) t fr) := by
 simp [World.setCell, Array.getElem?_modify, h]
theorem setCell_far (w : World) (b i k : Nat) (v : Value) (h : k ≠ b) : (w.setCell ⟨b, i, none⟩ v).heap[k]? = w.heap[k]? := Below.heap_setCell w ⟨b, i, none⟩ v k h
theorem alloc_new (w : World) (o : Obj) : (w.alloc o).heap[w.heap.size]? = some o := heap_alloc_new w o
theorem alloc_old (w : World) (o : Obj) (k : Nat) (h : k < w.heap.size) : (w.alloc o).heap[k]? = w.heap[k]? := Below.heap_alloc w o k h
theorem hide {p : Prop} (h : p) : Hid p := h
theorem Calls_use {P : Program} {f : FuncId} {args : Array Value} {w : World} {v : Value} {K : Ending → World → Prop} (h : Calls P f args w fun e w' => e = .returned v ∧ w' = w) (k : K (.returned v) w) : Calls P f args w K :=
 h.mono (by rintro e w' ⟨rfl, rfl⟩; exact k)
theorem one_new (w : World) (x : Value) (t : TypeId) : ∀ (j : Nat) (u : Value), [x][j]? = some u → (w.alloc (.cells #[x] t)).cell? ((⟨w.heap.size, 0, none⟩ : Addr).add j) = some u := by
 intro j u hj
 match j, hj with
 | 0, hj => simp at hj; subst hj; simp [Addr.add]
theorem one_int (x : Int) : ∀ u ∈ [Value.int .i64 x], u.oneCell' = true := by
 intro u hu; simp at hu; subst hu; rfl
theorem owns_drewN {w : World} {base : Nat} {e : TypeId} {size : Nat} {v : Value} {n : Nat} {xs : List Value} (h : w.ownsRow base e size v n xs) (q : Nat) : (w.drewN q).ownsRow base e size v n xs := h
end Go.Proofs.Ytlmflighkkgikaa
namespace Go.Proofs.Ytlmflighkkgikaa
def rootTo (n : Int) : Nat → Nat
 | 0 => 0
 | k + 1 => if ((k : Int) + 1) * ((k : Int) + 1) ≤ n then k + 1 else rootTo n k
def rootI (n : Int) : Int := rootTo n n.toNat
theorem sq_mono {a b : Int} (h0 : 0 ≤ a) (h : a ≤ b) : a * a ≤ b * b := Int.mul_le_mul h h h0 (by omega)
theorem rootTo_le (n : Int) (k : Nat) (h0 : 0 ≤ n) : ((rootTo n k : Nat) : Int) * (rootTo n k : Nat) ≤ n := by
 induction k with
 | zero => simpa [rootTo] using h0
 | succ k ih =>
   unfold rootTo
   split
   · next h => simpa using h
   · exact ih
theorem rootTo_max (n : Int) (k : Nat) : ∀ r : Nat, r ≤ k → (r : Int) * r ≤ n → r ≤ rootTo n k := by
 induction k with
 | zero => intro r hr _; omega
 | succ k ih =>
   intro r hr h
   unfold rootTo
   split
   · exact hr
   · next hk =>
     by_cases e : r = k + 1
     · subst e; simp at h; exact absurd h hk
     · exact ih r (by omega) h
theorem rootI_le (n : Int) (h : 0 ≤ n) : rootI n * rootI n ≤ n := rootTo_le n _ h
theorem rootI_eq (n r : Int) (h0 : 0 ≤ r) (h1 : r * r ≤ n) (h2 : n < (r + 1) * (r + 1)) : rootI n = r := by
 have hn : 0 ≤ n := by have := Int.mul_nonneg h0 h0; omega
 have hle := rootI_le n hn
 have h3 : rootI n ≤ r := by
   apply Int.le_of_not_gt
   intro hgt
   have := sq_mono (a := r + 1) (b := rootI n) (by omega) (by omega)
   omega
 have h4 : r ≤ rootI n := by
   have hrn : r ≤ n := by
     by_cases e : r = 0
     · omega
     · have := Int.mul_le_mul_of_nonneg_left (show (1 : Int) ≤ r by omega) h0
       rw [Int.mul_one] at this; omega
   have := rootTo_max n n.toNat r.toNat (by omega) (by rw [Int.toNat_of_nonneg h0]; exact h1)
   unfold rootI; omega
 omega
theorem rootI_pos (n : Int) (h : 1 ≤ n) : 1 ≤ rootI n := by
 have := rootTo_max n n.toNat 1 (by omega) (by simpa using h)
 unfold rootI; omega
end Go.Proofs.Ytlmflighkkgikaa
namespace Go.Proofs.Ytlmflighkkgikaa
open Ieee
theorem log2_mul_pow (m k : Nat) (h : m ≠ 0) : (m * 2 ^ k).log2 = m.log2 + k := by
 induction k with
 | zero => simp
 | succ k ih =>
   have hk : m * 2 ^ k ≠ 0 := Nat.mul_ne_zero h (by simp)
   rw [Nat.pow_succ, ← Nat.mul_assoc, Nat.mul_comm _ 2, Nat.log2_two_mul hk, ih]; omega
theorem cut_exact (way : Toward) (neg : Bool) (n d : Nat) (hd : d ≤ (n * 2 ^ d).log2 + 2) : way.cut neg (n * 2 ^ d) d = n := by
 unfold Toward.cut
 have e1 : min d ((n * 2 ^ d).log2 + 2) = d := by omega
 have hp : 0 < 2 ^ d := Nat.two_pow_pos _
 simp only [e1, Nat.one_shiftLeft, Nat.mul_mod_left, Nat.mul_div_cancel _ hp]
 cases way <;> simp
 all_goals omega
theorem nearest_scale (neg : Bool) (m k : Nat) (h0 : m ≠ 0) (h1 : m.log2 ≤ 52) : double.nearest neg (m * 2 ^ k) (-(k : Int)) = double.nearest neg m 0 := by
 have hmk : m * 2 ^ k ≠ 0 := Nat.mul_ne_zero h0 (by simp)
 unfold Format.nearest
 rw [if_neg hmk, if_neg h0, log2_mul_pow m k h0]
 have el : double.leastPlace = -1074 := by rfl
 have ef : double.fractionBits = 52 := rfl
 rw [el, ef]
 have e1 : max (-(k : Int) + ((m.log2 + k : Nat) : Int) - ((52 : Nat) : Int)) (-1074) = (m.log2 : Int) - 52 := by omega
 have e2 : max ((0 : Int) + ((m.log2 : Nat) : Int) - ((52 : Nat) : Int)) (-1074) = (m.log2 : Int) - 52 := by omega
 simp only [e1, e2]
 have k2 : Toward.even.cut neg (m <<< ((0 : Int) - ((m.log2 : Int) - 52)).toNat) (((m.log2 : Int) - 52) - 0).toNat = m * 2 ^ (52 - m.log2) := by
   rw [show (((m.log2 : Int) - 52) - 0).toNat = 0 by omega, show ((0 : Int) - ((m.log2 : Int) - 52)).toNat = 52 - m.log2 by omega, Nat.shiftLeft_eq]
   have := cut_exact Toward.even neg (m * 2 ^ (52 - m.log2)) 0 (by omega)
   simpa using this
 have k1 : Toward.even.cut neg ((m * 2 ^ k) <<< (-(k : Int) - ((m.log2 : Int) - 52)).toNat) (((m.log2 : Int) - 52) - -(k : Int)).toNat = m * 2 ^ (52 - m.log2) := by
   by_cases hk : k ≤ 52 - m.log2
   · rw [show (((m.log2 : Int) - 52) - -(k : Int)).toNat = 0 by omega, show (-(k : Int) - ((m.log2 : Int) - 52)).toNat = 52 - m.log2 - k by omega, Nat.shiftLeft_eq, Nat.mul_assoc, ← Nat.pow_add, show k + (52 - m.log2 - k) = 52 - m.log2 by omega]
     have := cut_exact Toward.even neg (m * 2 ^ (52 - m.log2)) 0 (by omega)
     simpa using this
   · rw [show (-(k : Int) - ((m.log2 : Int) - 52)).toNat = 0 by omega, Nat.shiftLeft_zero]
     have e3 : m * 2 ^ k = (m * 2 ^ (52 - m.log2)) * 2 ^ (k - (52 - m.log2)) := by rw [Nat.mul_assoc, ← Nat.pow_add]; congr 2; omega
     rw [show (((m.log2 : Int) - 52) - -(k : Int)).toNat = k - (52 - m.log2) by omega, e3]
     exact cut_exact Toward.even neg _ _ (by rw [← e3, log2_mul_pow m k h0]; omega)
 rw [k1, k2]
def wd (neg : Bool) (m : Nat) : Nat := double.nearest neg m 0
theorem log2_small (m : Nat) (h : m ≤ 4095) : m.log2 ≤ 11 := by
 by_cases h0 : m = 0
 · subst h0; decide
 · have := (Nat.log2_lt h0 (k := 12)).2 (by omega)
   omega
theorem read_wd (neg : Bool) (m : Nat) (h0 : m ≠ 0) (h1 : m ≤ 4095) : double.read (wd neg m) = .number neg (m * 2 ^ (52 - m.log2)) (-((52 - m.log2 : Nat) : Int)) := by
 have hl := log2_small m h1
 have hlo : 2 ^ 52 ≤ m * 2 ^ (52 - m.log2) := by
   have := Nat.log2_self_le h0
   calc 2 ^ 52 = 2 ^ m.log2 * 2 ^ (52 - m.log2) := by rw [← Nat.pow_add]; congr 1; omega
     _ ≤ m * 2 ^ (52 - m.log2) := Nat.mul_le_mul_right _ this
 have hhi : m * 2 ^ (52 - m.log2) < 2 ^ 53 := by
   have := Nat.lt_log2_self (n := m)
   calc m * 2 ^ (52 - m.log2) < 2 ^ (m.log2 + 1) * 2 ^ (52 - m.log2) := Nat.mul_lt_mul_of_pos_right this (Nat.two_pow_pos _)
     _ = 2 ^ 53 := by rw [← Nat.pow_add]; congr 1; omega
 have hw : wd neg m = double.word neg ((m.log2 + 1022) * 4503599627370496 + m * 2 ^ (52 - m.log2)) := by
   unfold wd Format.nearest
   rw [if_neg h0]
   have el : double.leastPlace = -1074 := by rfl
   have ef : double.fractionBits = 52 := rfl
   have eb : double.binade = 4503599627370496 := by rfl
   have ei : double.infRung = 9218868437227405312 := by rfl
   rw [el, ef, eb, ei]
   have e2 : max ((0 : Int) + ((m.log2 : Nat) : Int) - ((52 : Nat) : Int)) (-1074) = (m.log2 : Int) - 52 := by omega
   simp only [e2]
   have k2 : Toward.even.cut neg (m <<< ((0 : Int) - ((m.log2 : Int) - 52)).toNat) (((m.log2 : Int) - 52) - 0).toNat = m * 2 ^ (52 - m.log2) := by
     rw [show (((m.log2 : Int) - 52) - 0).toNat = 0 by omega, show ((0 : Int) - ((m.log2 : Int) - 52)).toNat = 52 - m.log2 by omega, Nat.shiftLeft_eq]
     have := cut_exact Toward.even neg (m * 2 ^ (52 - m.log2)) 0 (by omega)
     simpa using this
   rw [k2, show (((m.log2 : Int) - 52) - -1074).toNat = m.log2 + 1022 by omega]
   congr 1
   generalize m * 2 ^ (52 - m.log2) = K at *
   omega
 rw [hw]
 generalize m * 2 ^ (52 - m.log2) = K at *
 generalize m.log2 = L at *
 have es : double.signWeight = 9223372036854775808 := by rfl
 have el : double.leastPlace = -1074 := by rfl
 have eb : double.binade = 4503599627370496 := by rfl
 have ei : double.infRung = 9218868437227405312 := by rfl
 unfold Format.read Format.word
 rw [es, el, eb, ei]
 have q1 : (L + 1022) * 4503599627370496 + K < 9218868437227405312 := by omega
 have q2 : ¬ (L + 1022) * 4503599627370496 + K < 4503599627370496 := by omega
 have q3 : 4503599627370496 + ((L + 1022) * 4503599627370496 + K) % 4503599627370496 = K := by omega
 have q4 : ((L + 1022) * 4503599627370496 + K) / 4503599627370496 - 1 = L + 1022 := by omega
 cases neg
 · have r1 : ((L + 1022) * 4503599627370496 + K) % 9223372036854775808 = (L + 1022) * 4503599627370496 + K := by omega
   have r2 : ((L + 1022) * 4503599627370496 + K) / 9223372036854775808 % 2 = 0 := by omega
   simp only [Bool.false_eq_true, if_false, r1, r2, if_neg q2, if_pos q1, q3, q4]
   rw [show (-1074 : Int) + ((L + 1022 : Nat) : Int) = -((52 - L : Nat) : Int) by omega]
   rfl
 · have r1 : (9223372036854775808 + ((L + 1022) * 4503599627370496 + K)) % 9223372036854775808 = (L + 1022) * 4503599627370496 + K := by omega
   have r2 : (9223372036854775808 + ((L + 1022) * 4503599627370496 + K)) / 9223372036854775808 % 2 = 1 := by omega
   simp only [if_true, r1, r2, if_neg q2, if_pos q1, q3, q4]
   rw [show (-1074 : Int) + ((L + 1022 : Nat) : Int) = -((52 - L : Nat) : Int) by omega]
   rfl
def wz (neg : Bool) : Nat := if neg then 9223372036854775808 else 0
theorem read_wz (neg : Bool) : double.read (wz neg) = .number neg 0 (-1074) := by cases neg <;> rfl
def w1 (neg : Bool) : Nat := if neg then 13830554455654793216 else 4607182418800017408
theorem read_w1 (neg : Bool) : double.read (w1 neg) = .number neg (2 ^ 52) (-52) := by cases neg <;> rfl
theorem wd_zero (neg : Bool) : wd neg 0 = wz neg := by cases neg <;> rfl
theorem mul_one_wd (s t : Bool) (m : Nat) (h1 : m ≤ 4095) : double.mul (wd s m) (w1 t) = some (wd (s ^^ t) m) := by
 by_cases h0 : m = 0
 · subst h0; cases s <;> cases t <;> rfl
 · unfold Format.mul
   rw [read_wd s m h0 h1, read_w1]
   simp only [Datum.product, Option.map_some, Format.write]
   have hl := log2_small m h1
   rw [Nat.mul_assoc, ← Nat.pow_add, show (-((52 - m.log2 : Nat) : Int) + -52) = -((52 - m.log2 + 52 : Nat) : Int) by omega, nearest_scale _ m _ h0 (by omega)]
   rfl
theorem mul_zero_wd (s t : Bool) (m : Nat) (h1 : m ≤ 4095) : double.mul (wd s m) (wz t) = some (wz (s ^^ t)) := by
 by_cases h0 : m = 0
 · subst h0; cases s <;> cases t <;> rfl
 · unfold Format.mul
   rw [read_wd s m h0 h1, read_wz]
   simp only [Datum.product, Option.map_some, Format.write, Nat.mul_zero, Format.nearest, if_true]
   cases s <;> cases t <;> rfl
theorem wd_num (s : Bool) (m : Nat) (h1 : m ≤ 4095) : ∃ k : Nat, k ≤ 1074 ∧ double.read (wd s m) = .number s (m * 2 ^ k) (-(k : Int)) := by
 by_cases h0 : m = 0
 · subst h0
   obtain ⟨P, hP⟩ : ∃ P : Nat, P = 1074 := ⟨_, rfl⟩
   exact ⟨P, by omega, by rw [wd_zero, read_wz, Nat.zero_mul, hP]; rfl⟩
 · exact ⟨52 - m.log2, by omega, read_wd s m h0 h1⟩
theorem sum_zero (s t : Bool) (m k : Nat) (h1 : m ≤ 4095) (hk : k ≤ 1074) : ∃ s', ((Datum.number s (m * 2 ^ k) (-(k : Int))).sum (.number t 0 (-1074))).map double.write = some (wd s' m) ∧ (m ≠ 0 → s' = s) := by
 by_cases h0 : m = 0
 · subst h0
   refine ⟨s && t, ?_, fun h => absurd rfl h⟩
   have z : ∀ (b : Bool) (j : Nat), signed b 0 j = 0 := fun b j => by cases b <;> simp [signed]
   simp only [Datum.sum, Nat.zero_mul, z, Int.add_zero, if_true, Option.map_some, Format.write, Format.nearest, Int.natAbs_zero]
   rw [wd_zero]
   cases s <;> cases t <;> rfl
 · refine ⟨s, ?_, fun _ => rfl⟩
   have hl := log2_small m h1
   obtain ⟨P, hP⟩ : ∃ P : Nat, P = 1074 := ⟨_, rfl⟩
   rw [show (-1074 : Int) = -(P : Int) by omega]
   have e1 : min (-(k : Int)) (-(P : Int)) = -(P : Int) := by omega
   have e2 : (-(k : Int) - -(P : Int)).toNat = P - k := by omega
   simp only [Datum.sum, e1, e2, Option.map_some, Format.write]
   have e3 : (m * 2 ^ k) <<< (P - k) = m * 2 ^ P := by
     rw [Nat.shiftLeft_eq, Nat.mul_assoc, ← Nat.pow_add]; congr 2; omega
   have e4 : signed t 0 (-(P : Int) - -(P : Int)).toNat = 0 := by cases t <;> simp [signed]
   have hpos : 0 < m * 2 ^ P := Nat.mul_pos (by omega) (Nat.two_pow_pos _)
   rw [e4, Int.add_zero]
   unfold signed
   rw [e3]
   have hn := nearest_scale s m P h0 (by omega)
   generalize m * 2 ^ P = X at *
   have hw : wd s m = double.nearest s X (-(P : Int)) := hn.symm
   rw [hw]
   congr 1
   cases s
   · simp only [Bool.false_eq_true, if_false]
     rw [if_neg (by omega), show decide ((X : Int) < 0) = false from by simp]
     congr 1
   · simp only [if_true]
     rw [if_neg (by omega), show decide (-(X : Int) < 0) = true from by simp; omega, Int.natAbs_neg]
     congr 1
theorem sum_comm' (s t : Bool) (m n : Nat) (i j : Int) : (Datum.number s m i).sum (.number t n j) = (Datum.number t n j).sum (.number s m i) := by
 simp only [Datum.sum, Int.min_comm i j, Bool.and_comm s t]
 rw [Int.add_comm]
theorem add_wd_wz (s t : Bool) (m : Nat) (h1 : m ≤ 4095) : ∃ s', double.add (wd s m) (wz t) = some (wd s' m) ∧ (m ≠ 0 → s' = s) := by
 obtain ⟨k, hk, hr⟩ := wd_num s m h1
 unfold Format.add
 rw [hr, read_wz]
 exact sum_zero s t m k h1 hk
theorem add_wz_wd (s t : Bool) (m : Nat) (h1 : m ≤ 4095) : ∃ s', double.add (wz t) (wd s m) = some (wd s' m) ∧ (m ≠ 0 → s' = s) := by
 obtain ⟨k, hk, hr⟩ := wd_num s m h1
 unfold Format.add
 rw [hr, read_wz, sum_comm']
 exact sum_zero s t m k h1 hk
theorem sub_wd_wz (s t : Bool) (m : Nat) (h1 : m ≤ 4095) : ∃ s', double.sub (wd s m) (wz t) = some (wd s' m) ∧ (m ≠ 0 → s' = s) := by
 obtain ⟨k, hk, hr⟩ := wd_num s m h1
 unfold Format.sub
 rw [hr, read_wz]
 exact sum_zero s (!t) m k h1 hk
theorem sub_wz_wd (s t : Bool) (m : Nat) (h1 : m ≤ 4095) : ∃ s', double.sub (wz t) (wd s m) = some (wd s' m) ∧ (m ≠ 0 → s' = !s) := by
 obtain ⟨k, hk, hr⟩ := wd_num s m h1
 unfold Format.sub
 rw [hr, read_wz]
 simp only [Datum.opposite]
 rw [sum_comm']
 exact sum_zero (!s) t m k h1 hk
def numOf (s : Bool) (m : Nat) : Int := if s then -(m : Int) else m
theorem toInt_wd (s : Bool) (m : Nat) (h1 : m ≤ 4095) : floatToIntVal .f64 (wd s m) .i64 = some (numOf s m) := by
 obtain ⟨k, hk, hr⟩ := wd_num s m h1
 have e : (FloatKind.f64.decode (wd s m)).toInt .zero = some (numOf s m) := by
   show (double.read (wd s m)).toInt .zero = _
   rw [hr]
   unfold Datum.toInt Datum.integral
   by_cases h0 : m = 0
   · subst h0
     simp only [Nat.zero_mul, Nat.zero_shiftLeft]
     have : Toward.zero.cut s 0 (-(-(k : Int))).toNat = 0 := by simp [Toward.cut]
     rw [this]; cases s <;> rfl
   · dsimp only
     rw [show (-(k : Int)).toNat = 0 by omega, Nat.shiftLeft_zero, show (-(-(k : Int))).toNat = k by omega, cut_exact _ _ _ _ (by rw [log2_mul_pow m k h0]; omega)]
     cases s <;> simp [signed, numOf]
 unfold floatToIntVal
 rw [e]
 have hb : numOf s m ≤ 4095 ∧ -4095 ≤ numOf s m := by unfold numOf; split <;> omega
 have b1 : IntKind.i64.min ≤ numOf s m := by show (-9223372036854775808 : Int) ≤ _; omega
 have b2 : numOf s m ≤ IntKind.i64.max := by show _ ≤ (9223372036854775807 : Int); omega
 show (if _ then _ else _) = _
 rw [if_pos ⟨b1, b2⟩]
theorem fl_wd (a : Int) : floatOfInt .f64 a = wd (decide (a < 0)) a.natAbs := rfl
end Go.Proofs.Ytlmflighkkgikaa
namespace Go.Proofs.Ytlmflighkkgikaa

end Go.Proofs.Ytlmflighkkgikaa
