import Derived.Test.YtaidjhlijadmiaaP09

/-
  What the decoder reckons, by functions. (Weights by their numbers; vectors by their places.)
-/
namespace Go.Proofs.Ytaidjhlijadmiaa
open Go.RowKit

def Cfg.ww (c : Cfg) : Nat := c.width * c.width
/-- Where a layer's weights begin. -/
def Cfg.from (c : Cfg) (l : Nat) : Nat := c.vocab * c.width + l * 8 * c.ww

def qNew (c : Cfg) (l p : Nat) (x : Nat → Int) : Nat → Int := turnOf c.pairs p (mulAt c.weight (c.from l) c.width (normOf c.width x))
def kNew (c : Cfg) (l p : Nat) (x : Nat → Int) : Nat → Int := turnOf c.pairs p (mulAt c.weight (c.from l + c.ww) c.width (normOf c.width x))
def vNew (c : Cfg) (l : Nat) (x : Nat → Int) : Nat → Int := mulAt c.weight (c.from l + 2 * c.ww) c.width (normOf c.width x)
/-- All heads' words. -/
def attOf (c : Cfg) (p : Nat) (q : Nat → Int) (kf vf : Nat → Nat → Int) (i : Nat) : Int :=
  headAt p (fun t => scoreOf (i / (2 * c.pairs) * (2 * c.pairs)) (2 * c.pairs) q (kf t)) (fun t => vf t i)
def xMid (c : Cfg) (l : Nat) (x att : Nat → Int) : Nat → Int := plusOf x (mulAt c.weight (c.from l + 3 * c.ww) c.width att)
def notNeg (x : Int) : Int := if x < 0 then 0 else x
def zOf (c : Cfg) (l : Nat) (xm : Nat → Int) (i : Nat) : Int := notNeg (mulAt c.weight (c.from l + 4 * c.ww) c.width (normOf c.width xm) i)
def xUp (c : Cfg) (l : Nat) (xm z : Nat → Int) : Nat → Int := plusOf xm (mulAt c.weight (c.from l + 6 * c.ww) (2 * c.width) z)
/-- What comes of x in a layer, at a position, behind k and v of all positions up to it. -/
def xNext (c : Cfg) (l p : Nat) (x : Nat → Int) (kf vf : Nat → Nat → Int) : Nat → Int :=
  xUp c l (xMid c l x (attOf c p (qNew c l p x) kf vf)) (zOf c l (xMid c l x (attOf c p (qNew c l p x) kf vf)))

theorem mulAt_bd (W : Nat → Int) (a m : Nat) (v : Nat → Int) (i : Nat) : -4095 ≤ mulAt W a m v i ∧ mulAt W a m v i ≤ 4095 := cutI_bd _
theorem normOf_bd (n : Nat) (v : Nat → Int) (i : Nat) : -4095 ≤ normOf n v i ∧ normOf n v i ≤ 4095 := cutI_bd _
theorem plusOf_bd (a b : Nat → Int) (i : Nat) : -4095 ≤ plusOf a b i ∧ plusOf a b i ≤ 4095 := cutI_bd _
theorem qNew_bd (c : Cfg) (l p : Nat) (x : Nat → Int) (i : Nat) : -4095 ≤ qNew c l p x i ∧ qNew c l p x i ≤ 4095 := turnOf_bd _ _ _ (fun _ => mulAt_bd _ _ _ _ _) _
theorem kNew_bd (c : Cfg) (l p : Nat) (x : Nat → Int) (i : Nat) : -4095 ≤ kNew c l p x i ∧ kNew c l p x i ≤ 4095 := turnOf_bd _ _ _ (fun _ => mulAt_bd _ _ _ _ _) _
theorem vNew_bd (c : Cfg) (l : Nat) (x : Nat → Int) (i : Nat) : -4095 ≤ vNew c l x i ∧ vNew c l x i ≤ 4095 := mulAt_bd _ _ _ _ _
theorem zOf_bd (c : Cfg) (l : Nat) (x : Nat → Int) (i : Nat) : -4095 ≤ zOf c l x i ∧ zOf c l x i ≤ 4095 := by
  have := mulAt_bd c.weight (c.from l + 4 * c.ww) c.width (normOf c.width x) i
  unfold zOf notNeg; split <;> omega

/-- Sums of shares times words, over the sum of the shares, are no greater than the words. -/
theorem sum_le_mul {s v : Nat → Int} {n : Nat} {b : Int} (hs : ∀ t, 0 ≤ s t) (hv : ∀ t, v t ≤ b) : sumTo (fun t => s t * v t) n ≤ b * sumTo s n := by
  induction n with
  | zero => simp [sumTo]
  | succ n ih =>
    simp only [sumTo]
    have h1 := Int.mul_le_mul_of_nonneg_left (hv n) (hs n)
    rw [Int.mul_add, Int.mul_comm b (s n)]; omega

theorem headAt_bd (p : Nat) (sc v : Nat → Int) (bv : ∀ t, -4095 ≤ v t ∧ v t ≤ 4095) : -4095 ≤ headAt p sc v ∧ headAt p sc v ≤ 4095 := by
  have hpos := shares_pos p sc
  have h1 := sum_le_mul (s := shareAt p sc) (v := v) (n := p + 1) (b := 4095) (fun t => (shareAt_bd p sc t).1) (fun t => (bv t).2)
  have h2 := sum_le_mul (s := shareAt p sc) (v := fun t => -(v t)) (n := p + 1) (b := 4095) (fun t => (shareAt_bd p sc t).1) (fun t => by have := (bv t).1; omega)
  have e : sumTo (fun t => shareAt p sc t * -(v t)) (p + 1) = -(sumTo (fun t => shareAt p sc t * v t) (p + 1)) := by
    generalize p + 1 = m
    induction m with
    | zero => simp [sumTo]
    | succ m ih => simp only [sumTo]; rw [ih, Int.mul_neg]; omega
  rw [e] at h2
  unfold headAt
  generalize sumTo (fun t => shareAt p sc t * v t) (p + 1) = S at h1 h2
  generalize sumTo (shareAt p sc) (p + 1) = A at hpos h1 h2
  by_cases h0 : 0 ≤ S
  · rw [Int.tdiv_eq_ediv_of_nonneg h0]
    have a1 := Int.ediv_nonneg h0 (show 0 ≤ A by omega)
    have a2 : S / A ≤ 4095 := Int.ediv_le_of_le_mul (by omega) h1
    omega
  · have e : S = -(-S) := by omega
    rw [e, Int.neg_tdiv, Int.tdiv_eq_ediv_of_nonneg (by omega)]
    have a1 := Int.ediv_nonneg (show 0 ≤ -S by omega) (show 0 ≤ A by omega)
    have a2 : -S / A ≤ 4095 := Int.ediv_le_of_le_mul (by omega) h2
    omega

theorem attOf_bd (c : Cfg) (p : Nat) (q : Nat → Int) (kf vf : Nat → Nat → Int) (bv : ∀ t j, -4095 ≤ vf t j ∧ vf t j ≤ 4095) (i : Nat) : -4095 ≤ attOf c p q kf vf i ∧ attOf c p q kf vf i ≤ 4095 := headAt_bd _ _ _ (fun t => bv t _)

/-- The reference's decoder lies at d. -/
def RefDec (w : World) (d : Nat) (c : Cfg) : Prop :=
  ∃ vW, w.heap[d]? = some (.cells (c.cells ++ [vW, .int .i64 c.width]).toArray 71 (0, 0)) ∧ IntsT w vW c.many c.weight

theorem RefDec.below {w w' : World} {d : Nat} {c : Cfg} (h : RefDec w d c) (hb : Below w.heap.size w w') : RefDec w' d c := by
  obtain ⟨vW, h1, h2⟩ := h
  exact ⟨vW, by rw [hb.block d (lt_blk h1)]; exact h1, h2.keep (KeepT.of_below hb)⟩

theorem RefDec.keep {w w' : World} {d : Nat} {c : Cfg} (h : RefDec w d c) (h1 : KeepT 71 w w') (h2 : KeepT 3 w w') : RefDec w' d c := by
  obtain ⟨vW, q1, q2⟩ := h
  exact ⟨vW, h1 _ _ _ q1, q2.keep h2⟩

theorem RefDec.lt {w : World} {d : Nat} {c : Cfg} (h : RefDec w d c) : d < w.heap.size := by obtain ⟨_, h1, _⟩ := h; exact lt_blk h1

theorem RefDec.cells {w : World} {d : Nat} {c : Cfg} (h : RefDec w d c) : ∃ vW, w.cell? ⟨d, 7, none⟩ = some vW ∧ Ints w vW c.many c.weight ∧
    w.cell? ⟨d, 2, none⟩ = some (.int .i64 c.layers) ∧ w.cell? ⟨d, 3, none⟩ = some (.int .i64 c.heads) ∧ w.cell? ⟨d, 4, none⟩ = some (.int .i64 c.pairs) ∧
    w.cell? ⟨d, 5, none⟩ = some (.int .i64 c.vocab) ∧ w.cell? ⟨d, 8, none⟩ = some (.int .i64 c.width) := by
  obtain ⟨vW, h1, h2⟩ := h
  refine ⟨vW, ?_, h2.ints, ?_, ?_, ?_, ?_, ?_⟩ <;> (rw [cell_blk h1]; rfl)

theorem Cfg.ww_bd {c : Cfg} (hc : c.ok) : 4 ≤ c.ww ∧ c.ww ≤ 64 := by
  obtain ⟨h1, h2⟩ := c.width_bd hc
  unfold Cfg.ww
  exact ⟨Nat.mul_le_mul h1 h1, Nat.mul_le_mul h2 h2⟩

/-- All of a layer's weights are there. -/
theorem Cfg.fits {c : Cfg} (l : Nat) (hl : l < c.layers) : c.from l + 8 * c.ww ≤ c.vocab * c.width + c.layers * 8 * c.ww ∧ c.vocab * c.width + c.layers * 8 * c.ww + c.vocab * c.width = c.many := by
  constructor
  · unfold Cfg.from
    have : (l + 1) * (8 * c.ww) ≤ c.layers * (8 * c.ww) := Nat.mul_le_mul_right _ hl
    rw [Nat.add_mul] at this
    rw [Nat.mul_assoc l, Nat.mul_assoc c.layers]; omega
  · unfold Cfg.many Cfg.ww
    rw [Nat.mul_assoc (c.layers * 8), Nat.mul_assoc 2]; omega

theorem Cfg.many_bd {c : Cfg} (hc : c.ok) : c.many ≤ 1216 := by
  obtain ⟨w1, w2⟩ := c.width_bd hc
  obtain ⟨d1, d2⟩ := hc.vocab
  obtain ⟨e1, e2⟩ := hc.layers
  unfold Cfg.many
  have a : 2 * c.vocab * c.width ≤ 24 * 8 := Nat.mul_le_mul (by omega) w2
  have b : c.layers * 8 * c.width * c.width ≤ 16 * 8 * 8 := Nat.mul_le_mul (Nat.mul_le_mul (by omega) w2) w2
  omega

end Go.Proofs.Ytaidjhlijadmiaa
