import Derived.Test.YtaidjhlijadmiaaP36

/-
  The reference's logits.
-/
namespace Go.Proofs.Ytaidjhlijadmiaa
open Go.RowKit
attribute [local go_sem ↓] Go.wp_at_zero Go.wp_at_succ

set_option maxRecDepth 100000 in
set_option maxHeartbeats 1000000 in
theorem reflogits_any (c : Cfg) (hc : c.ok) (d s : Nat) (W0 w : World) (vX : Value) (x : Nat → Int) (hd : RefDec W0 d c) (hB : Below W0.heap.size W0 w) (hsl : s < w.heap.size) (hs : w.cell? ⟨s, 2, none⟩ = some vX) (hX : IntsT w vX c.width x) (bx : ∀ j, -4095 ≤ x j ∧ x j ≤ 4095) :
    Calls Try.prog 52 #[.pointer (some ⟨d, 0, none⟩), .pointer (some ⟨s, 0, none⟩)] w fun e w' =>
      ∃ r, e = .returned r ∧ IntsT w' r c.vocab (logitsOf c x) ∧ Below w.heap.size w w' := by
  obtain ⟨w1, w2⟩ := c.width_bd hc
  obtain ⟨ww1, ww2⟩ := c.ww_bd hc
  obtain ⟨e1, e2⟩ := hc.layers
  obtain ⟨d1, d2⟩ := hc.vocab
  have hmany := c.many_bd hc
  obtain ⟨_, hf2⟩ := c.fits 0 (by omega)
  have hdl := hd.lt
  obtain ⟨vW, g7, gW, g2, g3, g4, g5, g8⟩ := hd.cells
  have p2 := (hB.cell (p := ⟨d, 2, none⟩) hdl).trans g2
  have p5 := (hB.cell (p := ⟨d, 5, none⟩) hdl).trans g5
  have p8 := (hB.cell (p := ⟨d, 8, none⟩) hdl).trans g8
  have hvw1 : 0 ≤ (c.vocab : Int) * c.width := Int.mul_nonneg (by omega) (by omega)
  have hvw2 : (c.vocab : Int) * c.width ≤ 12 * 8 := Int.mul_le_mul (by omega) (by omega) (by omega) (by omega)
  have hlw0 : (c.layers : Int) * 8 * c.width ≤ 16 * 8 := Int.mul_le_mul (by omega) (by omega) (by omega) (by omega)
  have hlw1 : 0 ≤ (c.layers : Int) * 8 * c.width := Int.mul_nonneg (by omega) (by omega)
  have hlw2 : (c.layers : Int) * 8 * c.width * c.width ≤ 128 * 8 := Int.mul_le_mul (by omega) (by omega) (by omega) (by omega)
  have hlw3 : 0 ≤ (c.layers : Int) * 8 * c.width * c.width := Int.mul_nonneg (by omega) (by omega)
  have hfrom : (c.vocab : Int) * c.width + (c.layers : Int) * 8 * c.width * c.width = c.headAt := by unfold Cfg.headAt Cfg.ww; simp [Int.mul_assoc]
  have hlim : c.headAt ≤ 1216 := by unfold Cfg.headAt; omega
  have hfit : Hid (c.headAt + c.vocab * c.width ≤ c.many) := by show c.headAt + c.vocab * c.width ≤ c.many; unfold Cfg.headAt; omega
  clear g2 g3 g4 g5 g7 gW g8 hf2
  go_enter Try.func52, Try.ntmps52
  go_wp2
  go_quiet (fail)
  clear hfrom hvw1 hvw2 hlw0 hlw1 hlw2 hlw3
  have hdl1 : d < w.heap.size := by have := hB.size; omega
  have hBn : Below w.heap.size w w := Below.refl _ _
  go_wp2_with fail
  go_region_held3 (fun w' => w'.cell? ⟨d, 5, none⟩ = some (.int .i64 c.vocab) ∧ w'.cell? ⟨s, 2, none⟩ = some vX)
    (exact ⟨(hBn.cell (p := ⟨d, 5, none⟩) hdl1).trans p5, (hBn.cell (p := ⟨s, 2, none⟩) hsl).trans hs⟩)
    (first
      | (go_at_call 70; refine (refnorm_T c.width _ vX x (by exact hX) (by omega) (by omega) bx).mono ?_; rintro e x4 ⟨ym, rfl, hym, hbA⟩; replace hbA := below_of_drewN hbA; replace hBn := hBn.trans (hbA.mono hBn.size))
      | (go_at_call 69; refine (reftimes_T c hc W0 _ d c.headAt c.vocab c.width ym _ hd (hB.trans (hBn.mono hB.size)) hym hfit.out (by omega) (by omega) (normOf_bd _ _)).mono ?_; rintro e x5 ⟨rr, rfl, hrr, hbB⟩; replace hBn := hBn.trans (hbB.mono hBn.size)))
  go_wp2
  go_ret
  exact ⟨_, rfl, hrr, hBn⟩

end Go.Proofs.Ytaidjhlijadmiaa
