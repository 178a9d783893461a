import Derived.WalkKit
import Derived.WalkLawsBesides
import Derived.KernelRfl
import Derived.Test.YtaidjhlijadmiaaP02

/-
  What a head tells: scores, shares, their sums. Nothing of the program.
-/
namespace Go.Proofs.Ytaidjhlijadmiaa

/-- The greatest of f 0 .. f n. -/
def maxTo (f : Nat → Int) : Nat → Int
  | 0 => f 0
  | n + 1 => if maxTo f n < f (n + 1) then f (n + 1) else maxTo f n

theorem maxTo_ge (f : Nat → Int) (n : Nat) : ∀ j, j ≤ n → f j ≤ maxTo f n := by
  induction n with
  | zero => intro j hj; have : j = 0 := by omega
            subst this; exact Int.le_refl _
  | succ n ih =>
    intro j hj
    unfold maxTo
    by_cases e : j = n + 1
    · subst e; split <;> omega
    · have := ih j (by omega); split <;> omega

theorem maxTo_is (f : Nat → Int) (n : Nat) : ∃ j, j ≤ n ∧ maxTo f n = f j := by
  induction n with
  | zero => exact ⟨0, Nat.le_refl _, rfl⟩
  | succ n ih =>
    obtain ⟨j, hj, e⟩ := ih
    unfold maxTo
    split
    · exact ⟨n + 1, Nat.le_refl _, rfl⟩
    · exact ⟨j, by omega, e⟩

theorem maxTo_congr {f g : Nat → Int} {n : Nat} (h : ∀ j, j ≤ n → f j = g j) : maxTo f n = maxTo g n := by
  induction n with
  | zero => exact h 0 (Nat.le_refl _)
  | succ n ih => unfold maxTo; rw [ih (fun j hj => h j (by omega)), h (n + 1) (Nat.le_refl _)]

/-- The greatest of the first n; 0, if there are none. -/
def topTo (f : Nat → Int) : Nat → Int
  | 0 => 0
  | n + 1 => maxTo f n

theorem topTo_one (f : Nat → Int) : topTo f 1 = f 0 := rfl
theorem topTo_hit (f : Nat → Int) (n : Nat) (h : 0 < n) (e : topTo f n < f n) : topTo f (n + 1) = f n := by
  match n, h, e with
  | k + 1, _, e => have e' : maxTo f k < f (k + 1) := e
                   show maxTo f (k + 1) = _; rw [maxTo, if_pos e']
theorem topTo_miss (f : Nat → Int) (n : Nat) (h : 0 < n) (e : f n ≤ topTo f n) : topTo f (n + 1) = topTo f n := by
  match n, h, e with
  | k + 1, _, e => have e' : f (k + 1) ≤ maxTo f k := e
                   show maxTo f (k + 1) = maxTo f k; rw [maxTo, if_neg (by omega)]

/-- 65536, halved so many times. -/
def halved (k : Nat) : Int := 65536 / 2 ^ k

theorem halved_succ (k : Nat) : halved (k + 1) = halved k / 2 := by
  unfold halved
  rw [Int.pow_succ, Int.ediv_ediv_of_nonneg (Int.pow_nonneg (by omega))]

theorem halved_bd (k : Nat) : 0 ≤ halved k ∧ halved k ≤ 65536 := by
  unfold halved
  exact ⟨Int.ediv_nonneg (by omega) (Int.pow_nonneg (by omega)), Int.ediv_le_self _ (by omega)⟩

theorem halved_zero : halved 0 = 65536 := by simp [halved]

/-- The share of a score that is so much less than the greatest. -/
def shareOf (d : Int) : Int := halved (min d.toNat 17)

theorem shareOf_bd (d : Int) : 0 ≤ shareOf d ∧ shareOf d ≤ 65536 := halved_bd _

theorem shareOf_zero : shareOf 0 = 65536 := by simp [shareOf, halved_zero]

theorem tdiv_bd {s c b : Int} (hc : 0 ≤ c) (h : -b ≤ s ∧ s ≤ b) : -b ≤ s.tdiv c ∧ s.tdiv c ≤ b := by
  by_cases h0 : 0 ≤ s
  · rw [Int.tdiv_eq_ediv_of_nonneg h0]
    have := Int.ediv_le_self c h0
    have := Int.ediv_nonneg h0 hc
    omega
  · have e : s = -(-s) := by omega
    rw [e, Int.neg_tdiv, Int.tdiv_eq_ediv_of_nonneg (by omega)]
    have := Int.ediv_le_self c (show 0 ≤ -s by omega)
    have := Int.ediv_nonneg (show 0 ≤ -s by omega) hc
    omega

/-- The score of a position. -/
def scoreOf (lo n : Nat) (q : Nat → Int) (k : Nat → Int) : Int := (sumTo (fun i => q (lo + i) * k (lo + i)) n).tdiv 256

theorem scoreOf_bd (lo n : Nat) (q k : Nat → Int) (hn : n ≤ 4) (bq : ∀ j, -4095 ≤ q j ∧ q j ≤ 4095) (bk : ∀ j, -4095 ≤ k j ∧ k j ≤ 4095) : -67076100 ≤ scoreOf lo n q k ∧ scoreOf lo n q k ≤ 67076100 := by
  obtain ⟨h1, h2⟩ := sumTo_bd (f := fun i => q (lo + i) * k (lo + i)) (n := n) (b := 4095 * 4095) (fun i _ => mul_bd (bq _) (bk _))
  unfold scoreOf
  generalize sumTo (fun i => q (lo + i) * k (lo + i)) n = s at h1 h2
  exact tdiv_bd (by omega) ⟨by omega, by omega⟩

/-- The shares of positions 0 .. p. -/
def shareAt (p : Nat) (sc : Nat → Int) (t : Nat) : Int := shareOf (maxTo sc p - sc t)

theorem shareAt_bd (p : Nat) (sc : Nat → Int) (t : Nat) : 0 ≤ shareAt p sc t ∧ shareAt p sc t ≤ 65536 := shareOf_bd _

theorem sumTo_ge_one {f : Nat → Int} {n : Nat} (h : ∀ j, 0 ≤ f j) (j : Nat) (hj : j < n) : f j ≤ sumTo f n := by
  induction n with
  | zero => omega
  | succ n ih =>
    simp only [sumTo]
    have hn := h n
    by_cases e : j = n
    · subst e; have := sumTo_nonneg (f := f) (n := j) (fun i _ => h i); omega
    · have := ih (by omega); omega

theorem shares_bd (p n : Nat) (sc : Nat → Int) : 0 ≤ sumTo (shareAt p sc) n ∧ sumTo (shareAt p sc) n ≤ n * 65536 :=
  ⟨sumTo_nonneg (fun j _ => (shareAt_bd p sc j).1), (sumTo_bd (b := 65536) (fun j _ => ⟨by have := (shareAt_bd p sc j).1; omega, (shareAt_bd p sc j).2⟩)).2⟩

theorem shares_pos (p : Nat) (sc : Nat → Int) : 65536 ≤ sumTo (shareAt p sc) (p + 1) := by
  obtain ⟨j, hj, e⟩ := maxTo_is sc p
  have h := sumTo_ge_one (f := shareAt p sc) (n := p + 1) (fun i => (shareAt_bd p sc i).1) j (by omega)
  have h2 : shareAt p sc j = 65536 := by unfold shareAt; rw [e, Int.sub_self, shareOf_zero]
  omega

/-- What a head tells at a place: by the scores and by the values there. -/
def headAt (p : Nat) (sc : Nat → Int) (v : Nat → Int) : Int := (sumTo (fun t => shareAt p sc t * v t) (p + 1)).tdiv (sumTo (shareAt p sc) (p + 1))

theorem heads_bd (p n : Nat) (sc v : Nat → Int) (bv : ∀ j, -4095 ≤ v j ∧ v j ≤ 4095) : -(n * 268369920) ≤ sumTo (fun t => shareAt p sc t * v t) n ∧ sumTo (fun t => shareAt p sc t * v t) n ≤ n * 268369920 := by
  have := sumTo_bd (f := fun t => shareAt p sc t * v t) (n := n) (b := 65536 * 4095) (fun j _ => mul_bd ⟨by have := (shareAt_bd p sc j).1; omega, (shareAt_bd p sc j).2⟩ (bv j))
  omega

end Go.Proofs.Ytaidjhlijadmiaa

/-
  Whole numbers of this size as floats: products with 0, 1, -1, sums with 0. Nothing of the program.
-/
namespace Go.Proofs.Ytaidjhlijadmiaa
open Ieee

theorem log2_mul_pow (m k : Nat) (h : m ≠ 0) : (m * 2 ^ k).log2 = m.log2 + k := by
  induction k with
  | zero => simp
  | succ k ih =>
    have hk : m * 2 ^ k ≠ 0 := Nat.mul_ne_zero h (by simp)
    rw [Nat.pow_succ, ← Nat.mul_assoc, Nat.mul_comm _ 2, Nat.log2_two_mul hk, ih]; omega

/-- What has no digit to lose is kept as it is. -/
theorem cut_exact (way : Toward) (neg : Bool) (n d : Nat) (hd : d ≤ (n * 2 ^ d).log2 + 2) : way.cut neg (n * 2 ^ d) d = n := by
  unfold Toward.cut
  have e1 : min d ((n * 2 ^ d).log2 + 2) = d := by omega
  have hp : 0 < 2 ^ d := Nat.two_pow_pos _
  simp only [e1, Nat.one_shiftLeft, Nat.mul_mod_left, Nat.mul_div_cancel _ hp]
  cases way <;> simp
  all_goals omega

/-- The same number, spelt with more digits. -/
theorem nearest_scale (neg : Bool) (m k : Nat) (h0 : m ≠ 0) (h1 : m.log2 ≤ 52) : double.nearest neg (m * 2 ^ k) (-(k : Int)) = double.nearest neg m 0 := by
  have hmk : m * 2 ^ k ≠ 0 := Nat.mul_ne_zero h0 (by simp)
  unfold Format.nearest
  rw [if_neg hmk, if_neg h0, log2_mul_pow m k h0]
  have el : double.leastPlace = -1074 := by rfl
  have ef : double.fractionBits = 52 := rfl
  rw [el, ef]
  have e1 : max (-(k : Int) + ((m.log2 + k : Nat) : Int) - ((52 : Nat) : Int)) (-1074) = (m.log2 : Int) - 52 := by omega
  have e2 : max ((0 : Int) + ((m.log2 : Nat) : Int) - ((52 : Nat) : Int)) (-1074) = (m.log2 : Int) - 52 := by omega
  simp only [e1, e2]
  have k2 : Toward.even.cut neg (m <<< ((0 : Int) - ((m.log2 : Int) - 52)).toNat) (((m.log2 : Int) - 52) - 0).toNat = m * 2 ^ (52 - m.log2) := by
    rw [show (((m.log2 : Int) - 52) - 0).toNat = 0 by omega, show ((0 : Int) - ((m.log2 : Int) - 52)).toNat = 52 - m.log2 by omega, Nat.shiftLeft_eq]
    have := cut_exact Toward.even neg (m * 2 ^ (52 - m.log2)) 0 (by omega)
    simpa using this
  have k1 : Toward.even.cut neg ((m * 2 ^ k) <<< (-(k : Int) - ((m.log2 : Int) - 52)).toNat) (((m.log2 : Int) - 52) - -(k : Int)).toNat = m * 2 ^ (52 - m.log2) := by
    by_cases hk : k ≤ 52 - m.log2
    · rw [show (((m.log2 : Int) - 52) - -(k : Int)).toNat = 0 by omega, show (-(k : Int) - ((m.log2 : Int) - 52)).toNat = 52 - m.log2 - k by omega, Nat.shiftLeft_eq, Nat.mul_assoc, ← Nat.pow_add, show k + (52 - m.log2 - k) = 52 - m.log2 by omega]
      have := cut_exact Toward.even neg (m * 2 ^ (52 - m.log2)) 0 (by omega)
      simpa using this
    · rw [show (-(k : Int) - ((m.log2 : Int) - 52)).toNat = 0 by omega, Nat.shiftLeft_zero]
      have e3 : m * 2 ^ k = (m * 2 ^ (52 - m.log2)) * 2 ^ (k - (52 - m.log2)) := by rw [Nat.mul_assoc, ← Nat.pow_add]; congr 2; omega
      rw [show (((m.log2 : Int) - 52) - -(k : Int)).toNat = k - (52 - m.log2) by omega, e3]
      exact cut_exact Toward.even neg _ _ (by rw [← e3, log2_mul_pow m k h0]; omega)
  rw [k1, k2]

/-- A number of a magnitude, as a word. -/
def wd (neg : Bool) (m : Nat) : Nat := double.nearest neg m 0

theorem log2_small (m : Nat) (h : m ≤ 4095) : m.log2 ≤ 11 := by
  by_cases h0 : m = 0
  · subst h0; decide
  · have := (Nat.log2_lt h0 (k := 12)).2 (by omega)
    omega

/-- How a word is read. -/
theorem read_wd (neg : Bool) (m : Nat) (h0 : m ≠ 0) (h1 : m ≤ 4095) : double.read (wd neg m) = .number neg (m * 2 ^ (52 - m.log2)) (-((52 - m.log2 : Nat) : Int)) := by
  have hl := log2_small m h1
  have hlo : 2 ^ 52 ≤ m * 2 ^ (52 - m.log2) := by
    have := Nat.log2_self_le h0
    calc 2 ^ 52 = 2 ^ m.log2 * 2 ^ (52 - m.log2) := by rw [← Nat.pow_add]; congr 1; omega
      _ ≤ m * 2 ^ (52 - m.log2) := Nat.mul_le_mul_right _ this
  have hhi : m * 2 ^ (52 - m.log2) < 2 ^ 53 := by
    have := Nat.lt_log2_self (n := m)
    calc m * 2 ^ (52 - m.log2) < 2 ^ (m.log2 + 1) * 2 ^ (52 - m.log2) := Nat.mul_lt_mul_of_pos_right this (Nat.two_pow_pos _)
      _ = 2 ^ 53 := by rw [← Nat.pow_add]; congr 1; omega
  have hw : wd neg m = double.word neg ((m.log2 + 1022) * 4503599627370496 + m * 2 ^ (52 - m.log2)) := by
    unfold wd Format.nearest
    rw [if_neg h0]
    have el : double.leastPlace = -1074 := by rfl
    have ef : double.fractionBits = 52 := rfl
    have eb : double.binade = 4503599627370496 := by rfl
    have ei : double.infRung = 9218868437227405312 := by rfl
    rw [el, ef, eb, ei]
    have e2 : max ((0 : Int) + ((m.log2 : Nat) : Int) - ((52 : Nat) : Int)) (-1074) = (m.log2 : Int) - 52 := by omega
    simp only [e2]
    have k2 : Toward.even.cut neg (m <<< ((0 : Int) - ((m.log2 : Int) - 52)).toNat) (((m.log2 : Int) - 52) - 0).toNat = m * 2 ^ (52 - m.log2) := by
      rw [show (((m.log2 : Int) - 52) - 0).toNat = 0 by omega, show ((0 : Int) - ((m.log2 : Int) - 52)).toNat = 52 - m.log2 by omega, Nat.shiftLeft_eq]
      have := cut_exact Toward.even neg (m * 2 ^ (52 - m.log2)) 0 (by omega)
      simpa using this
    rw [k2, show (((m.log2 : Int) - 52) - -1074).toNat = m.log2 + 1022 by omega]
    congr 1
    generalize m * 2 ^ (52 - m.log2) = K at *
    omega
  rw [hw]
  generalize m * 2 ^ (52 - m.log2) = K at *
  generalize m.log2 = L at *
  have es : double.signWeight = 9223372036854775808 := by rfl
  have el : double.leastPlace = -1074 := by rfl
  have eb : double.binade = 4503599627370496 := by rfl
  have ei : double.infRung = 9218868437227405312 := by rfl
  unfold Format.read Format.word
  rw [es, el, eb, ei]
  have q1 : (L + 1022) * 4503599627370496 + K < 9218868437227405312 := by omega
  have q2 : ¬ (L + 1022) * 4503599627370496 + K < 4503599627370496 := by omega
  have q3 : 4503599627370496 + ((L + 1022) * 4503599627370496 + K) % 4503599627370496 = K := by omega
  have q4 : ((L + 1022) * 4503599627370496 + K) / 4503599627370496 - 1 = L + 1022 := by omega
  cases neg
  · have r1 : ((L + 1022) * 4503599627370496 + K) % 9223372036854775808 = (L + 1022) * 4503599627370496 + K := by omega
    have r2 : ((L + 1022) * 4503599627370496 + K) / 9223372036854775808 % 2 = 0 := by omega
    simp only [Bool.false_eq_true, if_false, r1, r2, if_neg q2, if_pos q1, q3, q4]
    rw [show (-1074 : Int) + ((L + 1022 : Nat) : Int) = -((52 - L : Nat) : Int) by omega]
    rfl
  · have r1 : (9223372036854775808 + ((L + 1022) * 4503599627370496 + K)) % 9223372036854775808 = (L + 1022) * 4503599627370496 + K := by omega
    have r2 : (9223372036854775808 + ((L + 1022) * 4503599627370496 + K)) / 9223372036854775808 % 2 = 1 := by omega
    simp only [if_true, r1, r2, if_neg q2, if_pos q1, q3, q4]
    rw [show (-1074 : Int) + ((L + 1022 : Nat) : Int) = -((52 - L : Nat) : Int) by omega]
    rfl

theorem read_one : double.read 4607182418800017408 = .number false (2 ^ 52) (-52) := by rfl
theorem read_mone : double.read 13830554455654793216 = .number true (2 ^ 52) (-52) := by rfl
theorem read_z0 : double.read 0 = .number false 0 (-1074) := by rfl
theorem read_z1 : double.read 9223372036854775808 = .number true 0 (-1074) := by rfl

/-- The word of a zero. -/
def wz (neg : Bool) : Nat := if neg then 9223372036854775808 else 0
theorem read_wz (neg : Bool) : double.read (wz neg) = .number neg 0 (-1074) := by cases neg <;> rfl
/-- The word of 1 and of -1. -/
def w1 (neg : Bool) : Nat := if neg then 13830554455654793216 else 4607182418800017408
theorem read_w1 (neg : Bool) : double.read (w1 neg) = .number neg (2 ^ 52) (-52) := by cases neg <;> rfl

theorem wd_zero (neg : Bool) : wd neg 0 = wz neg := by cases neg <;> rfl

theorem mul_one_wd (s t : Bool) (m : Nat) (h1 : m ≤ 4095) : double.mul (wd s m) (w1 t) = some (wd (s ^^ t) m) := by
  by_cases h0 : m = 0
  · subst h0; cases s <;> cases t <;> rfl
  · unfold Format.mul
    rw [read_wd s m h0 h1, read_w1]
    simp only [Datum.product, Option.map_some, Format.write]
    have hl := log2_small m h1
    rw [Nat.mul_assoc, ← Nat.pow_add, show (-((52 - m.log2 : Nat) : Int) + -52) = -((52 - m.log2 + 52 : Nat) : Int) by omega, nearest_scale _ m _ h0 (by omega)]
    rfl

theorem mul_zero_wd (s t : Bool) (m : Nat) (h1 : m ≤ 4095) : double.mul (wd s m) (wz t) = some (wz (s ^^ t)) := by
  by_cases h0 : m = 0
  · subst h0; cases s <;> cases t <;> rfl
  · unfold Format.mul
    rw [read_wd s m h0 h1, read_wz]
    simp only [Datum.product, Option.map_some, Format.write, Nat.mul_zero, Format.nearest, if_true]
    cases s <;> cases t <;> rfl

theorem wd_num (s : Bool) (m : Nat) (h1 : m ≤ 4095) : ∃ k : Nat, k ≤ 1074 ∧ double.read (wd s m) = .number s (m * 2 ^ k) (-(k : Int)) := by
  by_cases h0 : m = 0
  · subst h0
    obtain ⟨P, hP⟩ : ∃ P : Nat, P = 1074 := ⟨_, rfl⟩
    exact ⟨P, by omega, by rw [wd_zero, read_wz, Nat.zero_mul, hP]; rfl⟩
  · exact ⟨52 - m.log2, by omega, read_wd s m h0 h1⟩

/-- A sum with a zero: the same number; of two zeros a zero. -/
theorem sum_zero (s t : Bool) (m k : Nat) (h1 : m ≤ 4095) (hk : k ≤ 1074) : ∃ s', ((Datum.number s (m * 2 ^ k) (-(k : Int))).sum (.number t 0 (-1074))).map double.write = some (wd s' m) ∧ (m ≠ 0 → s' = s) := by
  by_cases h0 : m = 0
  · subst h0
    refine ⟨s && t, ?_, fun h => absurd rfl h⟩
    have z : ∀ (b : Bool) (j : Nat), signed b 0 j = 0 := fun b j => by cases b <;> simp [signed]
    simp only [Datum.sum, Nat.zero_mul, z, Int.add_zero, if_true, Option.map_some, Format.write, Format.nearest, Int.natAbs_zero]
    rw [wd_zero]
    cases s <;> cases t <;> rfl
  · refine ⟨s, ?_, fun _ => rfl⟩
    have hl := log2_small m h1
    obtain ⟨P, hP⟩ : ∃ P : Nat, P = 1074 := ⟨_, rfl⟩
    rw [show (-1074 : Int) = -(P : Int) by omega]
    have e1 : min (-(k : Int)) (-(P : Int)) = -(P : Int) := by omega
    have e2 : (-(k : Int) - -(P : Int)).toNat = P - k := by omega
    simp only [Datum.sum, e1, e2, Option.map_some, Format.write]
    have e3 : (m * 2 ^ k) <<< (P - k) = m * 2 ^ P := by
      rw [Nat.shiftLeft_eq, Nat.mul_assoc, ← Nat.pow_add]; congr 2; omega
    have e4 : signed t 0 (-(P : Int) - -(P : Int)).toNat = 0 := by cases t <;> simp [signed]
    have hpos : 0 < m * 2 ^ P := Nat.mul_pos (by omega) (Nat.two_pow_pos _)
    rw [e4, Int.add_zero]
    unfold signed
    rw [e3]
    have hn := nearest_scale s m P h0 (by omega)
    generalize m * 2 ^ P = X at *
    have hw : wd s m = double.nearest s X (-(P : Int)) := hn.symm
    rw [hw]
    congr 1
    cases s
    · simp only [Bool.false_eq_true, if_false]
      rw [if_neg (by omega), show decide ((X : Int) < 0) = false from by simp]
      congr 1
    · simp only [if_true]
      rw [if_neg (by omega), show decide (-(X : Int) < 0) = true from by simp; omega, Int.natAbs_neg]
      congr 1

theorem sum_comm' (s t : Bool) (m n : Nat) (i j : Int) : (Datum.number s m i).sum (.number t n j) = (Datum.number t n j).sum (.number s m i) := by
  simp only [Datum.sum, Int.min_comm i j, Bool.and_comm s t]
  rw [Int.add_comm]

theorem add_wd_wz (s t : Bool) (m : Nat) (h1 : m ≤ 4095) : ∃ s', double.add (wd s m) (wz t) = some (wd s' m) ∧ (m ≠ 0 → s' = s) := by
  obtain ⟨k, hk, hr⟩ := wd_num s m h1
  unfold Format.add
  rw [hr, read_wz]
  exact sum_zero s t m k h1 hk

theorem add_wz_wd (s t : Bool) (m : Nat) (h1 : m ≤ 4095) : ∃ s', double.add (wz t) (wd s m) = some (wd s' m) ∧ (m ≠ 0 → s' = s) := by
  obtain ⟨k, hk, hr⟩ := wd_num s m h1
  unfold Format.add
  rw [hr, read_wz, sum_comm']
  exact sum_zero s t m k h1 hk

theorem sub_wd_wz (s t : Bool) (m : Nat) (h1 : m ≤ 4095) : ∃ s', double.sub (wd s m) (wz t) = some (wd s' m) ∧ (m ≠ 0 → s' = s) := by
  obtain ⟨k, hk, hr⟩ := wd_num s m h1
  unfold Format.sub
  rw [hr, read_wz]
  exact sum_zero s (!t) m k h1 hk

theorem sub_wz_wd (s t : Bool) (m : Nat) (h1 : m ≤ 4095) : ∃ s', double.sub (wz t) (wd s m) = some (wd s' m) ∧ (m ≠ 0 → s' = !s) := by
  obtain ⟨k, hk, hr⟩ := wd_num s m h1
  unfold Format.sub
  rw [hr, read_wz]
  simp only [Datum.opposite]
  rw [sum_comm']
  exact sum_zero (!s) t m k h1 hk

/-- The number of a word. -/
def numOf (s : Bool) (m : Nat) : Int := if s then -(m : Int) else m

theorem toInt_wd (s : Bool) (m : Nat) (h1 : m ≤ 4095) : floatToIntVal .f64 (wd s m) .i64 = some (numOf s m) := by
  obtain ⟨k, hk, hr⟩ := wd_num s m h1
  have e : (FloatKind.f64.decode (wd s m)).toInt .zero = some (numOf s m) := by
    show (double.read (wd s m)).toInt .zero = _
    rw [hr]
    unfold Datum.toInt Datum.integral
    by_cases h0 : m = 0
    · subst h0
      simp only [Nat.zero_mul, Nat.zero_shiftLeft]
      have : Toward.zero.cut s 0 (-(-(k : Int))).toNat = 0 := by simp [Toward.cut]
      rw [this]; cases s <;> rfl
    · dsimp only
      rw [show (-(k : Int)).toNat = 0 by omega, Nat.shiftLeft_zero, show (-(-(k : Int))).toNat = k by omega, cut_exact _ _ _ _ (by rw [log2_mul_pow m k h0]; omega)]
      cases s <;> simp [signed, numOf]
  unfold floatToIntVal
  rw [e]
  have hb : numOf s m ≤ 4095 ∧ -4095 ≤ numOf s m := by unfold numOf; split <;> omega
  have b1 : IntKind.i64.min ≤ numOf s m := by show (-9223372036854775808 : Int) ≤ _; omega
  have b2 : numOf s m ≤ IntKind.i64.max := by show _ ≤ (9223372036854775807 : Int); omega
  show (if _ then _ else _) = _
  rw [if_pos ⟨b1, b2⟩]

/-- An integer as a float. -/
theorem fl_wd (a : Int) : floatOfInt .f64 a = wd (decide (a < 0)) a.natAbs := rfl

end Go.Proofs.Ytaidjhlijadmiaa
