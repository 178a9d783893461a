import Derived.Test.YtlmflighkkgikaaP36

namespace Go.Proofs.Ytlmflighkkgikaa
open Go.RowKit
attribute [local go_sem ↓] Go.wp_at_zero Go.wp_at_succ
set_option maxRecDepth 100000 in
set_option maxHeartbeats 2000000 in
theorem hkept_some (F ok : Nat → Prop) (g : Parts) (c : Cfg) (hc : c.ok) (L : List (Int × Key)) (il : List (List Nat)) (id lay pos : Int) (k : Key) (w : World) (h : HoardI F ok w g c L il) (hid : -9223372036854775808 ≤ id ∧ id ≤ 9223372036854775807) (hk : assoc L id = some k) (hin : (0 ≤ lay ∧ lay < c.layers) ∧ (0 ≤ pos ∧ pos < (k.1).length)) :
   Calls Try.prog 36 #[.pointer (some ⟨g.X, 0, none⟩), .int .i64 id, .int .i64 lay, .int .i64 pos] w fun e w' => Below w.heap.size w w' ∧ ∃ r1 r2 B2, e = .returned (.tuple #[r1, r2, .int .i64 0]) ∧ w.heap.size ≤ B2 ∧
        w'.ownsRow w.heap.size 3 1 r1 c.width ((List.range c.width).map fun j => .int .i64 (kOf c (tkN (k.1)) pos.toNat lay.toNat j)) ∧ (∀ b, r1.ownBlock = some b → b < B2) ∧
        w'.ownsRow B2 3 1 r2 c.width ((List.range c.width).map fun j => .int .i64 (vOf c (tkN (k.1)) pos.toNat lay.toNat j)) := by
 obtain ⟨x0, c2, x5, x7, x8, x13, hXl⟩ := h.cells
 obtain ⟨s1, s2⟩ := hc.slots
 obtain ⟨w1', w2'⟩ := c.width_bd hc
 obtain ⟨y1, y2⟩ := hc.layers
 obtain ⟨B, b0, U, hb0, hsq, hne, hl, _, hlook⟩ := h.seq id hid hk
 have l1 : 1 ≤ k.1.length := List.length_pos_iff.2 hne
 have hcell := cells_any ok c hc B U k w hsq
 rw [hb0] at hcell
 unfold blkV at hcell
 have Hcell := hide hcell
 clear hcell hid hsq hk h hne hb0
 generalize k.1 = T at Hcell l1 hl hin ⊢
 · obtain ⟨⟨i1, i2⟩, i3, i4⟩ := hin
   obtain ⟨ln, rfl⟩ : ∃ ln : Nat, lay = ln := ⟨lay.toNat, by omega⟩
   obtain ⟨pn, rfl⟩ : ∃ pn : Nat, pos = pn := ⟨pos.toNat, by omega⟩
   have i5 : (pn : Int) ≤ (T.length : Int) - 1 := by omega
   have i6 : (ln : Int) ≤ (c.layers : Int) - 1 := by omega
   have hd1 : decide ((pn : Int) ≤ (T.length : Int) - 1) = true := by simpa using i5
   have hd2 : decide ((0 : Int) ≤ (pn : Int)) = true := by simp
   have hd3 : decide ((ln : Int) ≤ (c.layers : Int) - 1) = true := by simpa using i6
   go_enter Try.func36, Try.ntmps36
   go_wp2_with fail
   refine Hcell.out.mono ?_
   rintro e w1 ⟨rc, rfl, hrc, hb1⟩
   obtain ⟨xs, hown, hxs⟩ := hrc
   obtain ⟨b9, c9, e9, hb9, _⟩ := hown.form (by omega)
   subst e9
   have hpn : pn < T.length := by omega
   have hcl := hown.cells (g := b9) rfl pn (xs pn) (by simp [hpn])
   have e1 : (⟨b9, 0, none⟩ : Addr).add pn = ⟨b9, pn, none⟩ := by unfold Addr.add; split <;> simp_all
   rw [e1] at hcl
   obtain ⟨bc, cc, ac, fc, ec, q1, q2, q3, q4⟩ := hxs pn hpn
   rw [ec] at hcl
   obtain ⟨vk, vv, r1, r2, r3, r4, _, _⟩ := q4 ln (by omega)
   have k1 : w1.cell? ⟨bc, ln * 2, none⟩ = some vk := by rw [cell_blk q3]; exact r1
   have k2 : w1.cell? ⟨bc, ln * 2 + 1, none⟩ = some vv := by rw [cell_blk q3]; exact r2
   have r3' := r3
   have r4' := r4
   obtain ⟨ak, ck, ek, _⟩ := r3'
   obtain ⟨av, cv, ev, _⟩ := r4'
   subst ek ev
   have c21 := (hb1.cell (p := ⟨g.X, 2, none⟩) hXl).trans c2
   have cap9 : (T.length : Int) ≤ c9 := by
     obtain ⟨_, ⟨e, _⟩ | ⟨g', cap', cur', e, _, _, z1, _⟩⟩ := hown
     · cases e
     · injection e with _ _ e
       omega
   have capc : (c.layers : Int) ≤ cc := by omega
   have R3 := hide r3
   have R4 := hide r4
   have hbB : Below w1.heap.size w1 (w1.alloc (.cells #[.slice ak c.width ck, .slice av c.width cv] 113)) := (Below.refl _ _).alloc (Nat.le_refl _) _
   have hnew := alloc_new w1 (.cells #[.slice ak c.width ck, .slice av c.width cv] 113)
   clear hlook x13 c2 Hcell r3 r4 q4 hxs r1 r2 e1
   go_wp2_with (go_at_call 48; refine Calls_use (within_any _ _ _ _) ?_)
   obtain ⟨Wb, hWb⟩ : ∃ Wb, Wb = w1.alloc (.cells #[.slice ak c.width ck, .slice av c.width cv] 113) := ⟨_, rfl⟩
   rw [← hWb] at hbB hnew ⊢
   have m0 : Wb.cell? ⟨w1.heap.size, 0, none⟩ = some (.slice ak c.width ck) := by rw [cell_blk hnew]; rfl
   have m1 : Wb.cell? ⟨w1.heap.size, 1, none⟩ = some (.slice av c.width cv) := by rw [cell_blk hnew]; rfl
   have hlb := lt_blk hnew
   have hK : IntsT Wb (.slice ak c.width ck) c.width (kOf c (tkN T) pn ln) := R3.out.keep (KeepT.of_below hbB)
   have hV : IntsT Wb (.slice av c.width cv) c.width (vOf c (tkN T) pn ln) := R4.out.keep (KeepT.of_below hbB)
   have hBn : Below Wb.heap.size Wb Wb := Below.refl _ _
   have hBw : Below w.heap.size w Wb := hb1.trans (hbB.mono hb1.size)
   clear hWb hnew R3 R4 hown q3 k1 k2 hcl
   go_region_held3 (fun w' => w'.cell? ⟨w1.heap.size, 0, none⟩ = some (.slice ak c.width ck) ∧ w'.cell? ⟨w1.heap.size, 1, none⟩ = some (.slice av c.width cv))
     (exact ⟨(hBn.cell (p := ⟨w1.heap.size, 0, none⟩) hlb).trans m0, (hBn.cell (p := ⟨w1.heap.size, 1, none⟩) hlb).trans m1⟩)
     (first
       | (go_at_call 59; refine (clone_any c.width (.slice ak c.width ck) _ _ (by exact hK) (by omega) (by omega)).mono ?_; rintro e w3 ⟨rk, rfl, hrk, hb3⟩; replace hb3 := below_of_drewN (k := 1) hb3; replace hBn := hBn.trans (hb3.mono hBn.size))
       | (go_at_call 59; refine (clone_any c.width (.slice av c.width cv) _ _ (hV.keep (KeepT.of_below hBn)) (by omega) (by omega)).mono ?_; rintro e w4 ⟨rv, rfl, hrv, hb4⟩; replace hBn := hBn.trans (hb4.mono hBn.size)))
   have hsz := hBw.size
   have hsz3 := hb3.size
   go_wp2
   refine bodyPost_ret (v := .tuple #[rk, rv, .int .i64 0]) (by simp [results, Try.results36]) rfl ⟨hBw.trans (hBn.mono hBw.size), rk, rv, w3.heap.size, rfl, by omega, ?_, fun b hb => (hrk.lt b hb).2, ?_⟩
   · have q := owns_base (owns_below' hrk hb4) (show w.heap.size ≤ Wb.heap.size from hsz)
     simpa using q
   · simpa using hrv
end Go.Proofs.Ytlmflighkkgikaa
