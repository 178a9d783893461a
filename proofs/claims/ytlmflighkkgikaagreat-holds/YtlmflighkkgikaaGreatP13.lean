import Derived.Deep.RegionHeld3
import Derived.Deep.Cut
import Derived.Test.YtlmflighkkgikaaGreatP01
import Derived.Test.YtlmflighkkgikaaGreatP06
import Derived.Test.YtlmflighkkgikaaGreatP12

namespace Go.Proofs.YtlmflighkkgikaaGreat
open Go.RowKit
attribute [local go_sem ↓] Go.wp_at_zero Go.wp_at_succ
theorem Tryz.info_ints : (Tryz.prog.info? 36).map (fun i => (i.zero, i.size, i.bytes)) = some (some (.slice none 0 0), 1, 24) := by kernel_rfl
theorem one_slice (v : Value) (h : ∃ a n c, v = .slice a n c) : ∀ u ∈ [v], u.oneCell' = true := by
 obtain ⟨a, n, c, rfl⟩ := h
 intro u hu; simp at hu; subst hu; rfl
theorem seen_step {W0 a b : World} {s bK bV L m r0 l0 bb g cap p : Nat} {vX x : Value} {rv : Nat → Value} {n : Nat → Nat} {xs : Nat → Nat → Value} {f : Nat → Nat → Nat → Int} {y : Nat → Int}
   (h : SeenI W0.heap.size a s bK bV L m vX rv n xs f) (hB : Below W0.heap.size W0 a) (hr0 : r0 < 2 * L) (hb : bb = bK ∧ r0 = 2 * l0 ∨ bb = bV ∧ r0 = 2 * l0 + 1) (hp : n r0 = p)
   (hown : b.ownsRow W0.heap.size 36 1 (.slice (some ⟨g, 0, none⟩) (p + 1) cap) (p + 1) ((List.range p).map (xs r0) ++ [x])) (hgrow : (a.alloc (.cells #[x] 36)).drew.grownBy b (rv r0).ownBlock)
   (hat : (rv r0).ownBlock = some g ∨ g = a.heap.size + 1) (hx : IntsT a x m y) :
   SeenI W0.heap.size (b.setCell ⟨bb, l0, none⟩ (.slice (some ⟨g, 0, none⟩) (p + 1) cap)) s bK bV L m vX (fun r => if r = r0 then .slice (some ⟨g, 0, none⟩) (p + 1) cap else rv r) (fun r => if r = r0 then p + 1 else n r)
     (fun r t => if r = r0 ∧ t = p then x else xs r t) (fun r t => if r = r0 ∧ t = p then y else f r t) ∧
   Below W0.heap.size W0 (b.setCell ⟨bb, l0, none⟩ (.slice (some ⟨g, 0, none⟩) (p + 1) cap)) ∧ KeepT 3 a (b.setCell ⟨bb, l0, none⟩ (.slice (some ⟨g, 0, none⟩) (p + 1) cap)) := by
 subst hp
 have hbel : Below a.heap.size a (a.alloc (.cells #[x] 36)).drew := ((Below.refl _ _).alloc (Nat.le_refl _) _).drew
 have h' := h.below hbel
 have hsz : (a.alloc (.cells #[x] 36)).drew.heap.size = a.heap.size + 1 := by simp
 have h1 := h'.push hr0 hb hown hgrow (by rw [hsz]; rcases hat with hat | hat; exact .inl hat; exact .inr (by omega)) (hx.keep (KeepT.of_below hbel))
 have hbT : ∃ arr : Array Value, b.heap[bb]? = some (Obj.cells arr 62 (0, 0)) := by
   obtain ⟨aK, k1, _⟩ := h'.keys
   obtain ⟨aV, v1, _⟩ := h'.vals
   rcases hb with ⟨rfl, _⟩ | ⟨rfl, _⟩
   · exact ⟨aK, by rw [hgrow.block _ (lt_blk k1) (h'.own_ne r0 hr0 k1 (by decide))]; exact k1⟩
   · exact ⟨aV, by rw [hgrow.block _ (lt_blk v1) (h'.own_ne r0 hr0 v1 (by decide))]; exact v1⟩
 obtain ⟨arr, hbT⟩ := hbT
 refine ⟨h1, ?_, ?_⟩
 · refine (((hB.alloc hB.size _).drew).grown hgrow (by rw [hsz]; have := hB.size; omega) (fun g hg => ((h.row r0 hr0).lt g hg).1)).setCell ?_ _
   rcases hb with ⟨rfl, _⟩ | ⟨rfl, _⟩
   · exact h.bk
   · exact h.bv
 · exact ((KeepT.of_below hbel).trans (KeepT.of_grown (h'.row r0 hr0) hgrow (by decide))).trans (KeepT.setCell hbT (by decide) _)
theorem grown_drew {w w' : World} {r : Option Nat} (h : w.grownBy w' r) : w.drew.grownBy w' r := ⟨h.os, h.tape, h.output, h.size, h.block⟩
theorem refnorm_T (m : Nat) (u : World) (vv : Value) (v : Nat → Int) (hv : IntsT u vv m v) (h1 : 1 ≤ m) (h2 : m ≤ 100) (bv : ∀ j, -4095 ≤ v j ∧ v j ≤ 4095) :
   Calls Tryz.prog 80 #[vv] u fun e w' => ∃ r, e = .returned r ∧ IntsT w' r m (normOf m v) ∧ Below u.heap.size u w' :=
 (refnorm_any m vv v u hv.ints h1 h2 bv).mono (by rintro e w' ⟨r, rfl, hr, hb⟩; exact ⟨r, rfl, IntsT.of_owns hr, hb⟩)
theorem reftimes_T (c : Cfg) (hc : c.ok) (W0 u : World) (d start rows m : Nat) (vv : Value) (v : Nat → Int) (hd : RefDec W0 d c) (hB : Below W0.heap.size W0 u) (hv : IntsT u vv m v)
   (hfit : start + rows * m ≤ c.many) (hm : m ≤ 100) (hr : rows ≤ 100) (bv : ∀ j, -4095 ≤ v j ∧ v j ≤ 4095) :
   Calls Tryz.prog 79 #[.pointer (some ⟨d, 0, none⟩), .int .i64 start, .int .i64 rows, vv] u fun e w' =>
     ∃ r, e = .returned r ∧ IntsT w' r rows (mulAt c.weight start m v) ∧ Below u.heap.size u w' := by
 obtain ⟨vW, g7, gW, _⟩ := (hd.below hB).cells
 exact (reftimes_any d start rows c.many m vW vv c.weight v u (hd.below hB).lt g7 gW hv.ints hfit (by have := c.many_bd hc; omega) hm hr (fun j => weightI_bd _ _) bv).mono
   (by rintro e w' ⟨r, rfl, hr, hb⟩; exact ⟨r, rfl, IntsT.of_owns hr, hb⟩)
theorem reftimes_O (c : Cfg) (hc : c.ok) (W0 u : World) (d start rows m : Nat) (vv : Value) (v : Nat → Int) (hd : RefDec W0 d c) (hB : Below W0.heap.size W0 u) (hv : IntsT u vv m v)
   (hfit : start + rows * m ≤ c.many) (hm : m ≤ 100) (hr : rows ≤ 100) (hr1 : 1 ≤ rows) (bv : ∀ j, -4095 ≤ v j ∧ v j ≤ 4095) :
   Calls Tryz.prog 79 #[.pointer (some ⟨d, 0, none⟩), .int .i64 start, .int .i64 rows, vv] u fun e w' =>
     ∃ b cap, e = .returned (.slice (some ⟨b, 0, none⟩) rows cap) ∧ OwnI u.heap.size w' b cap rows (mulAt c.weight start m v) ∧ Below u.heap.size u w' := by
 obtain ⟨vW, g7, gW, _⟩ := (hd.below hB).cells
 exact (reftimes_any d start rows c.many m vW vv c.weight v u (hd.below hB).lt g7 gW hv.ints hfit (by have := c.many_bd hc; omega) hm hr (fun j => weightI_bd _ _) bv).mono
   (by
     rintro e w' ⟨r, rfl, hr, hb⟩
     rcases OwnI.of_owns hr with ⟨_, h0⟩ | ⟨b, cap, rfl, ho⟩
     · omega
     · exact ⟨b, cap, rfl, ho, hb⟩)
theorem refturned_T (c : Cfg) (hc : c.ok) (W0 u : World) (d p : Nat) (vv : Value) (v : Nat → Int) (hd : RefDec W0 d c) (hB : Below W0.heap.size W0 u) (hv : IntsT u vv c.width v) (hp : p ≤ 1000) (bv : ∀ j, -4095 ≤ v j ∧ v j ≤ 4095) :
   Calls Tryz.prog 98 #[.pointer (some ⟨d, 0, none⟩), vv, .int .i64 p] u fun e w' =>
     ∃ r, e = .returned r ∧ IntsT w' r c.width (turnOf c.pairs p v) ∧ Below u.heap.size u w' := by
 obtain ⟨vW, _, _, _, _, g4, _⟩ := (hd.below hB).cells
 have e : c.width = 2 * (c.heads * c.pairs) := by unfold Cfg.width; rw [Nat.mul_assoc]
 have hw := c.width_bd hc
 rw [e] at hv ⊢
 exact (refturned_any d (c.heads * c.pairs) c.pairs p vv v u (hd.below hB).lt g4 hv.ints (by omega) hc.pairs.1 hc.pairs.2 hp bv).mono
   (by rintro e w' ⟨r, rfl, hr, hb⟩; exact ⟨r, rfl, IntsT.of_owns hr, hb⟩)
theorem refplus_T (m : Nat) (u : World) (va vb : Value) (a b : Nat → Int) (ha : IntsT u va m a) (hb : IntsT u vb m b) (hm : m ≤ 100) (ba : ∀ j, -4095 ≤ a j ∧ a j ≤ 4095) (bb : ∀ j, -4095 ≤ b j ∧ b j ≤ 4095) :
   Calls Tryz.prog 100 #[va, vb] u fun e w' => ∃ r, e = .returned r ∧ IntsT w' r m (plusOf a b) ∧ Below u.heap.size u w' :=
 (refplus_any m va vb a b u ha.ints hb.ints hm ba bb).mono (by rintro e w' ⟨r, rfl, hr, hb⟩; exact ⟨r, rfl, IntsT.of_owns hr, hb⟩)
set_option maxRecDepth 100000 in
set_option maxHeartbeats 4000000 in
theorem reflayer_any (c : Cfg) (hc : c.ok) (W0 w : World) (d s bK bV p l : Nat) (vx vX : Value) (x : Nat → Int) (rv : Nat → Value) (n : Nat → Nat) (xs : Nat → Nat → Value) (f : Nat → Nat → Nat → Int)
   (hd : RefDec W0 d c) (hB : Below W0.heap.size W0 w) (hs : SeenI W0.heap.size w s bK bV c.layers c.width vX rv n xs f) (hl : l < c.layers) (hnK : n (2 * l) = p) (hnV : n (2 * l + 1) = p)
   (hx : IntsT w vx c.width x) (bx : ∀ j, -4095 ≤ x j ∧ x j ≤ 4095) (bf : ∀ r t j, -4095 ≤ f r t j ∧ f r t j ≤ 4095) (hp : p ≤ 100) :
   Calls Tryz.prog 82 #[.pointer (some ⟨d, 0, none⟩), .pointer (some ⟨s, 0, none⟩), vx, .int .i64 l, .int .i64 p] w fun e w' =>
     ∃ r rv' xs', e = .returned r ∧ Below W0.heap.size W0 w' ∧
       SeenI W0.heap.size w' s bK bV c.layers c.width vX rv' (fun r => if r = 2 * l ∨ r = 2 * l + 1 then p + 1 else n r) xs' (fun r t => if r = 2 * l ∧ t = p then kNew c l p x else if r = 2 * l + 1 ∧ t = p then vNew c l x else f r t) ∧
       IntsT w' r c.width (xNext c l p x (fun t => if t = p then kNew c l p x else f (2 * l) t) (fun t => if t = p then vNew c l x else f (2 * l + 1) t)) := by
 obtain ⟨i0, hi, hz0, hz1, hz2⟩ := info_parts Tryz.info_int
 obtain ⟨i1, hi', hz0', hz1', hz2'⟩ := info_parts Tryz.info_ints
 obtain ⟨w1, w2⟩ := c.width_bd hc
 obtain ⟨ww1, ww2⟩ := c.ww_bd hc
 have hmany := c.many_bd hc
 obtain ⟨hf1, hf2⟩ := c.fits l hl
 obtain ⟨a1, a2⟩ := hc.heads
 obtain ⟨b1, b2⟩ := hc.pairs
 obtain ⟨d1, d2⟩ := hc.vocab
 obtain ⟨e1, e2⟩ := hc.layers
 have hww : (c.width : Int) * c.width = c.ww := by unfold Cfg.ww; simp
 have hvw1 : 0 ≤ (c.vocab : Int) * c.width := Int.mul_nonneg (by omega) (by omega)
 have hvw2 : (c.vocab : Int) * c.width ≤ 12 * 8 := Int.mul_le_mul (by omega) (by omega) (by omega) (by omega)
 have hlw1 : 0 ≤ (l : Int) * 8 * c.ww := Int.mul_nonneg (by omega) (by omega)
 have hlw2 : (l : Int) * 8 * c.ww ≤ 16 * 64 := Int.mul_le_mul (by omega) (by omega) (by omega) (by omega)
 have hfrom : (c.vocab : Int) * c.width + (l : Int) * 8 * c.ww = c.from l := by unfold Cfg.from; simp
 have hwd : c.width = 2 * (c.heads * c.pairs) := by unfold Cfg.width; rw [Nat.mul_assoc]
 have Hwd := hide hwd
 clear hwd
 obtain ⟨vW, g7, gW, g2, g3, g4, g5, g8⟩ := hd.cells
 have hdl := hd.lt
 have q2 := (hB.cell (p := ⟨d, 2, none⟩) hdl).trans g2
 have q5 := (hB.cell (p := ⟨d, 5, none⟩) hdl).trans g5
 have q8 := (hB.cell (p := ⟨d, 8, none⟩) hdl).trans g8
 have HfK := hide hnK
 have HfV := hide hnV
 clear hnK hnV g2 g4 g5 g7 gW
 go_enter Tryz.func82, Tryz.ntmps82
 go_wp2
 go_quiet (fail)
 go_wp2
 go_quiet (fail)
 clear hww hfrom q2 q5 q8
 have hfit : ∀ k, k ≤ 7 → c.from l + k * c.ww + c.width * c.width ≤ c.many := fun k hk => by
   have : k * c.ww + c.ww ≤ 8 * c.ww := by have := Nat.mul_le_mul_right c.ww (show k + 1 ≤ 8 by omega); rw [Nat.add_mul] at this; omega
   have e : c.ww = c.width * c.width := rfl
   omega
 have Hfit := hide hfit
 clear hfit
 go_wp2_with fail
 refine (refnorm_T c.width _ vx x (by exact hx) (by omega) (by omega) bx).mono ?_
 rintro e u1 ⟨y, rfl, hy, hb⟩
 replace hb := below_of_drewN hb
 have hB1 := hB.trans (hb.mono hB.size)
 replace hs := hs.below hb
 replace hx := hx.keep (KeepT.of_below hb)
 have q8 := (hB1.cell (p := ⟨d, 8, none⟩) hdl).trans g8
 clear hb
 go_wp2_with fail
 refine (reftimes_T c hc W0 u1 d (c.from l) c.width c.width y (normOf c.width x) hd hB1 hy (by have := Hfit.out 0 (by omega); omega) (by omega) (by omega) (normOf_bd _ _)).mono ?_
 rintro e u2 ⟨qq, rfl, hq, hb⟩
 have hB2 := hB1.trans (hb.mono hB1.size)
 replace hs := hs.below hb
 replace hx := hx.keep (KeepT.of_below hb)
 replace hy := hy.keep (KeepT.of_below hb)
 clear hb q8
 go_wp2_with fail
 refine (refturned_T c hc W0 u2 d p qq _ hd hB2 hq (by omega) (mulAt_bd _ _ _ _)).mono ?_
 rintro e u3 ⟨q, rfl, hq, hb⟩
 have hB3 := hB2.trans (hb.mono hB2.size)
 replace hs := hs.below hb
 replace hx := hx.keep (KeepT.of_below hb)
 replace hy := hy.keep (KeepT.of_below hb)
 have q8 := (hB3.cell (p := ⟨d, 8, none⟩) hdl).trans g8
 clear hb hB1 hB2
 go_wp2_with fail
 rw [show ((c.from l : Int) + c.ww) = ((c.from l + c.ww : Nat) : Int) by simp]
 refine (reftimes_T c hc W0 u3 d (c.from l + c.ww) c.width c.width y (normOf c.width x) hd hB3 hy (by have := Hfit.out 1 (by omega); omega) (by omega) (by omega) (normOf_bd _ _)).mono ?_
 rintro e u4 ⟨kk, rfl, hk, hb⟩
 have hB4 := hB3.trans (hb.mono hB3.size)
 replace hs := hs.below hb
 replace hx := hx.keep (KeepT.of_below hb)
 replace hy := hy.keep (KeepT.of_below hb)
 replace hq := hq.keep (KeepT.of_below hb)
 clear hb q8 hB3
 go_wp2_with fail
 refine (refturned_T c hc W0 u4 d p kk _ hd hB4 hk (by omega) (mulAt_bd _ _ _ _)).mono ?_
 rintro e u5 ⟨k, rfl, hk, hb⟩
 have hB5 := hB4.trans (hb.mono hB4.size)
 replace hs := hs.below hb
 replace hx := hx.keep (KeepT.of_below hb)
 replace hy := hy.keep (KeepT.of_below hb)
 replace hq := hq.keep (KeepT.of_below hb)
 clear hb hB4
 go_wp2_with fail
 obtain ⟨aK, hK1, hK2, hK3⟩ := hs.keys
 have s0 : u5.cell? ⟨s, 0, none⟩ = some (.slice (some ⟨bK, 0, none⟩) c.layers c.layers) := by rw [cell_blk hs.seen]; rfl
 have s1 : u5.cell? ⟨bK, l, none⟩ = some (rv (2 * l)) := by rw [cell_blk hK1]; exact hK3 l hl
 have s2 := frozen_blk hK1 l
 have il1 : (0 : Int) ≤ (l : Int) := by omega
 have il2 : (l : Int) < (c.layers : Int) := by omega
 have hrow := hs.row (2 * l) (by omega)
 rw [HfK.out] at hrow
 obtain ⟨ak, ck, ek, _⟩ := id hk
 subst ek
 have hsz5 := hB5.size
 have hsl := lt_blk hs.seen
 have hKl := lt_blk hK1
 have ne1 := hs.own_ne (2 * l) (by omega) hs.seen (by decide)
 have ne2 := hs.own_ne (2 * l) (by omega) hK1 (by decide)
 have s3 : ∀ o, (u5.alloc o).frozen? ⟨bK, l, none⟩ = false := fun o => (World.frozen?_alloc_past _ _ _ (by omega)).trans s2
 clear e1 e2
 go_cut [] from 70 (fun wc => ∃ rv' xs', SeenI W0.heap.size wc s bK bV c.layers c.width vX rv' (fun r => if r = 2 * l then p + 1 else n r) xs' (fun r t => if r = 2 * l ∧ t = p then kNew c l p x else f r t) ∧
     Below W0.heap.size W0 wc ∧ KeepT 3 u5 wc)
 case first =>
  go_region_law ((refine step_append_lies _ (by rfl) _ _ _ (by rfl) W0.heap.size 36 i1 _ 1 24 Tryz.underlying62 hi' hz0' hz1' hz2' rfl (by omega) (rv (2 * l)) p _ (by simp [Act.eval]) ((hrow.alloc _).drew) ⟨u5.heap.size, 0, none⟩ 1 1 [.slice ak c.width ck] (by simp [Act.eval]) (by rfl) (one_new u5 _ _) (one_slice _ ⟨_, _, _, rfl⟩) (by omega) (by unfold maxLen; omega) (by omega) (by simp; omega) (u5.heap.size + 1) (by simp) ?_; intro gg cap u6 hown6 hgrow hat hlt; have z0 := hgrow.cell ((World.cell?_alloc_past _ _ _ (by omega)).trans s0) ne1; have z1 := hgrow.cell ((World.cell?_alloc_past _ _ _ (by omega)).trans s1) ne2; have z2 := (World.frozen?_of_block (hgrow.block _ (by simp; omega) ne2)).trans ((World.frozen?_alloc_past _ _ _ (by omega)).trans s2)))
  all_goals go_wp2_with fail
  all_goals go_meet
  all_goals exact ⟨_, _, seen_step hs hB5 (by omega) (.inl ⟨rfl, rfl⟩) HfK.out hown6 hgrow hat hk⟩
 case rest =>
  obtain ⟨rv1, xs1, hs1, hB6, hkeep⟩ := hcut
  replace hx := hx.keep hkeep
  replace hy := hy.keep hkeep
  replace hq := hq.keep hkeep
  clear hK1 hK2 hK3 s0 s1 s2 s3 hrow hs hB5 hkeep ne1 ne2 hsz5 hsl hKl
  go_wp2_with fail
  obtain ⟨aV, hV1, hV2, hV3⟩ := hs1.vals
  have s0 : wc.cell? ⟨s, 1, none⟩ = some (.slice (some ⟨bV, 0, none⟩) c.layers c.layers) := by rw [cell_blk hs1.seen]; rfl
  have s1 : wc.cell? ⟨bV, l, none⟩ = some (rv1 (2 * l + 1)) := by rw [cell_blk hV1]; exact hV3 l hl
  have s2 := frozen_blk hV1 l
  have q8 := (hB6.cell (p := ⟨d, 8, none⟩) hdl).trans g8
  have hsl := lt_blk hs1.seen
  have hVl := lt_blk hV1
  have hdl6 : d < wc.heap.size := by have := hB6.size; omega
  have hsz6 := hB6.size
  have HfV1 : Hid ((if 2 * l + 1 = 2 * l then p + 1 else n (2 * l + 1)) = p) := by rw [if_neg (by omega)]; exact HfV.out
  have hst : c.from l + 2 * c.ww + c.width * c.width ≤ c.many := Hfit.out 2 (by omega)
  have Hst := hide hst
  clear hst
  have hwr1 : IntKind.i64.wrap (2 * (c.ww : Int)) = 2 * c.ww := wrap_in (by omega) (by omega)
  have hwr2 : IntKind.i64.wrap ((c.from l : Int) + 2 * c.ww) = c.from l + 2 * c.ww := wrap_in (by omega) (by omega)
  go_cut [] from 86 (fun wd => ∃ rv' xs', SeenI W0.heap.size wd s bK bV c.layers c.width vX rv' (fun r => if r = 2 * l + 1 then p + 1 else if r = 2 * l then p + 1 else n r) xs' (fun r t => if r = 2 * l + 1 ∧ t = p then vNew c l x else if r = 2 * l ∧ t = p then kNew c l p x else f r t) ∧
     Below W0.heap.size W0 wd ∧ KeepT 3 wc wd)
  case first =>
   refine wp_region_N (S := fun w' => w'.cell? ⟨s, 1, none⟩ = some (.slice (some ⟨bV, 0, none⟩) c.layers c.layers) ∧ w'.cell? ⟨bV, l, none⟩ = some (rv1 (2 * l + 1)) ∧ w'.cell? ⟨d, 8, none⟩ = some (.int .i64 c.width)) (need := fun j => j != 26) (by kernel_rfl) ?_
   have hS0 : wc.drew.cell? ⟨s, 1, none⟩ = some (.slice (some ⟨bV, 0, none⟩) c.layers c.layers) ∧ wc.drew.cell? ⟨bV, l, none⟩ = some (rv1 (2 * l + 1)) ∧ wc.drew.cell? ⟨d, 8, none⟩ = some (.int .i64 c.width) := ⟨s0, s1, q8⟩
   refine wpAnyN_takeD (i := 0) (d := some 86) (v := Value.pointer (some ⟨s, 0, none⟩)) (fuel := 26) rfl (by kernel_rfl) (by kernel_rfl) (by kernel_rfl) (by kernel_rfl) (by kernel_rfl) (fun _ _ _ h => h) (.inl ⟨rfl, fun w' hw' => by go_simp⟩) hS0 ?_
   refine wpAnyN_takeD (i := 1) (d := some 87) (v := Value.pointer (some ⟨s, 0, none⟩)) (fuel := 25) rfl (by kernel_rfl) (by kernel_rfl) (by kernel_rfl) (by kernel_rfl) (by kernel_rfl) (fun _ _ _ h => h) (.inl ⟨rfl, fun w' hw' => by go_simp⟩) hS0 ?_
   refine wpAnyN_takeD (i := 2) (d := some 88) (v := Value.pointer (some ⟨s, 1, none⟩)) (fuel := 24) rfl (by kernel_rfl) (by kernel_rfl) (by kernel_rfl) (by kernel_rfl) (by kernel_rfl) (fun _ _ _ h => h) (.inl ⟨rfl, fun w' hw' => by go_simp⟩) hS0 ?_
   refine wpAnyN_takeD (i := 3) (d := some 89) (v := Value.slice (some ⟨bV, 0, none⟩) c.layers c.layers) (fuel := 23) rfl (by kernel_rfl) (by kernel_rfl) (by kernel_rfl) (by kernel_rfl) (by kernel_rfl) (fun _ _ _ h => h) (.inl ⟨rfl, fun w' hw' => by go_simp⟩) hS0 ?_
   refine wpAnyN_takeD (i := 4) (d := some 90) (v := Value.int .i64 l) (fuel := 22) rfl (by kernel_rfl) (by kernel_rfl) (by kernel_rfl) (by kernel_rfl) (by kernel_rfl) (fun _ _ _ h => h) (.inl ⟨rfl, fun w' hw' => by go_simp⟩) hS0 ?_
   refine wpAnyN_takeD (i := 5) (d := some 91) (v := Value.pointer (some ⟨s, 0, none⟩)) (fuel := 21) rfl (by kernel_rfl) (by kernel_rfl) (by kernel_rfl) (by kernel_rfl) (by kernel_rfl) (fun _ _ _ h => h) (.inl ⟨rfl, fun w' hw' => by go_simp⟩) hS0 ?_
   refine wpAnyN_takeD (i := 6) (d := some 92) (v := Value.pointer (some ⟨s, 0, none⟩)) (fuel := 20) rfl (by kernel_rfl) (by kernel_rfl) (by kernel_rfl) (by kernel_rfl) (by kernel_rfl) (fun _ _ _ h => h) (.inl ⟨rfl, fun w' hw' => by go_simp⟩) hS0 ?_
   refine wpAnyN_takeD (i := 7) (d := some 93) (v := Value.pointer (some ⟨s, 1, none⟩)) (fuel := 19) rfl (by kernel_rfl) (by kernel_rfl) (by kernel_rfl) (by kernel_rfl) (by kernel_rfl) (fun _ _ _ h => h) (.inl ⟨rfl, fun w' hw' => by go_simp⟩) hS0 ?_
   refine wpAnyN_takeD (i := 8) (d := some 94) (v := Value.slice (some ⟨bV, 0, none⟩) c.layers c.layers) (fuel := 18) rfl (by kernel_rfl) (by kernel_rfl) (by kernel_rfl) (by kernel_rfl) (by kernel_rfl) (fun _ _ _ h => h) (.inl ⟨rfl, fun w' hw' => by go_simp⟩) hS0 ?_
   refine wpAnyN_takeD (i := 9) (d := some 95) (v := Value.int .i64 l) (fuel := 17) rfl (by kernel_rfl) (by kernel_rfl) (by kernel_rfl) (by kernel_rfl) (by kernel_rfl) (fun _ _ _ h => h) (.inl ⟨rfl, fun w' hw' => by go_simp⟩) hS0 ?_
   refine wpAnyN_takeD (i := 10) (d := some 96) (v := Value.pointer (some ⟨bV, l, none⟩)) (fuel := 16) rfl (by kernel_rfl) (by kernel_rfl) (by kernel_rfl) (by kernel_rfl) (by kernel_rfl) (fun _ _ _ h => h) (.inl ⟨rfl, fun w' hw' => by go_simp⟩) hS0 ?_
   refine wpAnyN_takeD (i := 11) (d := some 97) (v := rv1 (2 * l + 1)) (fuel := 15) rfl (by kernel_rfl) (by kernel_rfl) (by kernel_rfl) (by kernel_rfl) (by kernel_rfl) (fun _ _ _ h => h) (.inl ⟨rfl, fun w' hw' => by go_simp⟩) hS0 ?_
   refine wpAnyN_takeD (i := 12) (d := some 98) (v := Value.pointer (some ⟨d, 0, none⟩)) (fuel := 14) rfl (by kernel_rfl) (by kernel_rfl) (by kernel_rfl) (by kernel_rfl) (by kernel_rfl) (fun _ _ _ h => h) (.inl ⟨rfl, fun w' hw' => by go_simp⟩) hS0 ?_
   refine wpAnyN_takeD (i := 13) (d := some 99) (v := Value.int .i64 (c.from l)) (fuel := 13) rfl (by kernel_rfl) (by kernel_rfl) (by kernel_rfl) (by kernel_rfl) (by kernel_rfl) (fun _ _ _ h => h) (.inl ⟨rfl, fun w' hw' => by go_simp⟩) hS0 ?_
   refine wpAnyN_takeD (i := 14) (d := some 100) (v := Value.int .i64 c.ww) (fuel := 12) rfl (by kernel_rfl) (by kernel_rfl) (by kernel_rfl) (by kernel_rfl) (by kernel_rfl) (fun _ _ _ h => h) (.inl ⟨rfl, fun w' hw' => by go_simp⟩) hS0 ?_
   refine wpAnyN_takeD (i := 15) (d := some 101) (v := Value.int .i64 (2 * (c.ww : Int))) (fuel := 11) rfl (by kernel_rfl) (by kernel_rfl) (by kernel_rfl) (by kernel_rfl) (by kernel_rfl) (fun _ _ _ h => h) (.inl ⟨rfl, fun w' hw' => by go_simp⟩) hS0 ?_
   refine wpAnyN_takeD (i := 16) (d := some 102) (v := Value.int .i64 ((c.from l : Int) + 2 * c.ww)) (fuel := 10) rfl (by kernel_rfl) (by kernel_rfl) (by kernel_rfl) (by kernel_rfl) (by kernel_rfl) (fun _ _ _ h => h) (.inl ⟨rfl, fun w' hw' => by go_simp⟩) hS0 ?_
   refine wpAnyN_takeD (i := 17) (d := some 103) (v := Value.pointer (some ⟨d, 0, none⟩)) (fuel := 9) rfl (by kernel_rfl) (by kernel_rfl) (by kernel_rfl) (by kernel_rfl) (by kernel_rfl) (fun _ _ _ h => h) (.inl ⟨rfl, fun w' hw' => by go_simp⟩) hS0 ?_
   refine wpAnyN_takeD (i := 18) (d := some 104) (v := Value.pointer (some ⟨d, 0, none⟩)) (fuel := 8) rfl (by kernel_rfl) (by kernel_rfl) (by kernel_rfl) (by kernel_rfl) (by kernel_rfl) (fun _ _ _ h => h) (.inl ⟨rfl, fun w' hw' => by go_simp⟩) hS0 ?_
   refine wpAnyN_takeD (i := 19) (d := some 105) (v := Value.pointer (some ⟨d, 8, none⟩)) (fuel := 7) rfl (by kernel_rfl) (by kernel_rfl) (by kernel_rfl) (by kernel_rfl) (by kernel_rfl) (fun _ _ _ h => h) (.inl ⟨rfl, fun w' hw' => by go_simp⟩) hS0 ?_
   refine wpAnyN_takeD (i := 20) (d := some 106) (v := Value.int .i64 c.width) (fuel := 6) rfl (by kernel_rfl) (by kernel_rfl) (by kernel_rfl) (by kernel_rfl) (by kernel_rfl) (fun _ _ _ h => h) (.inl ⟨rfl, fun w' hw' => by go_simp⟩) hS0 ?_
   refine wpAnyN_takeD (i := 21) (d := some 107) (v := y) (fuel := 5) rfl (by kernel_rfl) (by kernel_rfl) (by kernel_rfl) (by kernel_rfl) (by kernel_rfl) (fun _ _ _ h => h) (.inl ⟨rfl, fun w' hw' => by go_simp⟩) hS0 ?_
   refine wpAnyN_one (i := 22) (fuel := 4) (by decide +kernel) ?_
   refine wpOp_is (d := some 108) (op := .call { callee := .value (.func 79), args := #[.tmp 98, .tmp 102, .tmp 106, .tmp 107], argTypes := #[82, 3, 3, 36] }) (ty := 36) (by kernel_rfl) (fun pos after => ?_)
   refine wp_of_call 79 Tryz.func79 (by kernel_rfl) (by kernel_rfl) _ _ rfl #[.pointer (some ⟨d, 0, none⟩), .int .i64 ((c.from l + 2 * c.ww : Nat) : Int), .int .i64 c.width, y] (by simp [Act.eval, Act.put]) (reftimes_T c hc W0 _ d (c.from l + 2 * c.ww) c.width c.width y (normOf c.width x) hd hB6.drew (by exact hy) Hst.out (by omega) (by omega) (normOf_bd _ _)) ?_
   rintro vv v1 ⟨hv, hb⟩
   replace hb := below_of_drewN (k := 1) hb
   have hs2 := hs1.below hb
   have t0 := (hb.cell (p := ⟨s, 1, none⟩) hsl).trans s0
   have t1 := (hb.cell (p := ⟨bV, l, none⟩) hVl).trans s1
   have t2 := (hb.frozen (p := ⟨bV, l, none⟩) hVl).trans s2
   have t8 := (hb.cell (p := ⟨d, 8, none⟩) hdl6).trans q8
   have hsz7 := hb.size
   have hsz7' : W0.heap.size ≤ v1.heap.size := by omega
   have ne1 := hs2.own_ne (2 * l + 1) (by omega) hs2.seen (by decide)
   have ne2 := hs2.own_ne (2 * l + 1) (by omega) ((hb.block bV hVl).trans hV1) (by decide)
   have hrow := hs2.row (2 * l + 1) (by omega)
   rw [HfV1.out] at hrow
   obtain ⟨av, cv, ev, _⟩ := id hv
   subst ev
   refine ⟨fun _ => ⟨t0, t1, t8⟩, ?_⟩
   refine wpAnyN_one (i := 23) (fuel := 3) (by decide +kernel) ?_
   refine wpOp_is (d := some 109) (op := .buildSlice 62 1 #[(0, .tmp 108)]) (ty := 62) (by kernel_rfl) (fun pos after => ?_)
   refine wp_of_run (v := .slice (some ⟨v1.heap.size, 0, none⟩) 1 1) (w' := v1.alloc (.cells #[.slice av c.width cv] 36)) (by go_simp) ?_
   have ta0 : (v1.alloc (.cells #[.slice av c.width cv] 36)).cell? ⟨s, 1, none⟩ = some (.slice (some ⟨bV, 0, none⟩) c.layers c.layers) := (World.cell?_alloc_past _ _ _ (by omega)).trans t0
   have ta1 : (v1.alloc (.cells #[.slice av c.width cv] 36)).cell? ⟨bV, l, none⟩ = some (rv1 (2 * l + 1)) := (World.cell?_alloc_past _ _ _ (by omega)).trans t1
   have ta8 : (v1.alloc (.cells #[.slice av c.width cv] 36)).cell? ⟨d, 8, none⟩ = some (.int .i64 c.width) := (World.cell?_alloc_past _ _ _ (by omega)).trans t8
   refine ⟨fun _ => ⟨ta0, ta1, ta8⟩, ?_⟩
   refine wpAnyN_one (i := 24) (fuel := 2) (by decide +kernel) ?_
   refine wpOp_is (d := some 110) (op := .call { callee := .builtin .append, args := #[.tmp 97, .tmp 109], argTypes := #[62, 62] }) (ty := 62) (by kernel_rfl) (fun pos after => ?_)
   refine wp_append_lies _ (.tmp 97) (.tmp 109) 62 rfl W0.heap.size 36 i1 _ 1 24 Tryz.underlying62 hi' hz0' hz1' hz2' rfl (by omega) (rv1 (2 * l + 1)) p _ (by simp [Act.eval, Act.put]) (hrow.alloc _) ⟨v1.heap.size, 0, none⟩ 1 1 [.slice av c.width cv] (by simp [Act.eval, Act.put]) rfl (one_new v1 _ _) (one_slice _ ⟨_, _, _, rfl⟩) (by omega) (by unfold maxLen; omega) (by omega) (by simp; omega) (v1.heap.size + 1) (by simp) ?_
   intro gg cap v2 hown7 hgrow hat hlt7
   have z0 := hgrow.cell ta0 ne1
   have z1 := hgrow.cell ta1 ne2
   have hneD : some d ≠ (rv1 (2 * l + 1)).ownBlock := fun e => by have := (hrow.lt d e.symm).1; omega
   have z8 := hgrow.cell ta8 hneD
   have z2 := (World.frozen?_of_block (hgrow.block bV (by simp; omega) ne2)).trans ((World.frozen?_alloc_past _ _ _ (by omega)).trans t2)
   refine ⟨fun _ => ⟨z0, z1, z8⟩, ?_⟩
   refine wpAnyN_one (i := 25) (fuel := 1) ?hready ?_
   case hready => kernel_rfl
   refine wpOp_run (d := some 111) (op := .indexAddr 33 (.tmp 89) (.tmp 90)) (ty := 0) (v := .pointer (some ⟨bV, l, none⟩)) (w' := v2) (by kernel_rfl) (fun pos after => by go_simp) ?_
   refine ⟨fun _ => ⟨z0, z1, z8⟩, ?_⟩
   refine wpAnyN_one (i := 26) (fuel := 0) ?hready ?_
   case hready => kernel_rfl
   refine wpOp_skip (d := none) (op := .store 62 (.tmp 111) (.tmp 110)) (ty := 0) (w' := v2.setCell ⟨bV, l, none⟩ (.slice (some ⟨gg, 0, none⟩) (p + 1) cap)) (by kernel_rfl) (fun pos after => by go_simp) ?_
   refine ⟨fun h => absurd h (by decide), ?_⟩
   refine wpAnyN_done ?hready ?_ _
   case hready => kernel_rfl
   go_simp
   go_wp2_with fail
   go_meet
   obtain ⟨r1, r2, r3⟩ := seen_step hs2 (hB6.trans (hb.mono hB6.size)) (by omega) (.inr ⟨rfl, rfl⟩) HfV1.out hown7 (grown_drew hgrow) hat hv
   exact ⟨_, _, r1, r2, (KeepT.of_below hb).trans r3⟩
  case rest =>
   obtain ⟨rv2, xs2, hs2, hB7, hkeep⟩ := hcut
   replace hx := hx.keep hkeep
   replace hq := hq.keep hkeep
   clear hV1 hV2 hV3 s0 s1 s2 q8 hsl hVl hdl6 hsz6 hwr1 hwr2 hs1 hB6 hkeep hy Hst HfV1
   have hLy : c.layers ≤ 2 := hc.layers.2
   have hs3 : SeenI W0.heap.size wc s bK bV c.layers c.width vX rv2 (fun r => if r = 2 * l ∨ r = 2 * l + 1 then p + 1 else n r) xs2 (fun r t => if r = 2 * l ∧ t = p then kNew c l p x else if r = 2 * l + 1 ∧ t = p then vNew c l x else f r t) := by
     refine hs2.congr (fun r _ => ?_) (fun r _ t _ => ?_)
     · by_cases e1 : r = 2 * l + 1
       · simp [e1]
       · by_cases e2 : r = 2 * l <;> simp [e1, e2]
     · by_cases e1 : r = 2 * l + 1
       · simp [e1]
       · by_cases e2 : r = 2 * l <;> simp [e1, e2]
   clear hs2
   have hmK : Mat wc (rv2 (2 * l)) (p + 1) c.width (fun t => if t = p then kNew c l p x else f (2 * l) t) := by
     have h0 := hs3.mat (2 * l) (by omega)
     simp only [true_or, if_true, true_and, show ¬ 2 * l = 2 * l + 1 by omega, false_and, if_false] at h0
     exact h0
   have hmV : Mat wc (rv2 (2 * l + 1)) (p + 1) c.width (fun t => if t = p then vNew c l x else f (2 * l + 1) t) := by
     have h0 := hs3.mat (2 * l + 1) (by omega)
     simp only [or_true, if_true, true_and, show ¬ 2 * l + 1 = 2 * l by omega, false_and, if_false] at h0
     exact h0
   obtain ⟨KF, eKF⟩ : ∃ KF, KF = (fun t => if t = p then kNew c l p x else f (2 * l) t) := ⟨_, rfl⟩
   obtain ⟨VF, eVF⟩ : ∃ VF, VF = (fun t => if t = p then vNew c l x else f (2 * l + 1) t) := ⟨_, rfl⟩
   have bKF : ∀ t j, -4095 ≤ KF t j ∧ KF t j ≤ 4095 := by
     intro t j; rw [eKF]; dsimp only; split
     · exact kNew_bd _ _ _ _ _
     · exact bf _ _ _
   have bVF : ∀ t j, -4095 ≤ VF t j ∧ VF t j ≤ 4095 := by
     intro t j; rw [eVF]; dsimp only; split
     · exact vNew_bd _ _ _ _
     · exact bf _ _ _
   rw [← eKF] at hmK
   rw [← eVF] at hmV
   have HeK := hide eKF
   have HeV := hide eVF
   clear eKF eVF
   have hwd2 : Hid (c.width = c.heads * (2 * c.pairs)) := by show c.width = _; rw [Hwd.out, Nat.mul_comm c.heads, Nat.mul_comm c.heads, Nat.mul_assoc]
   have hsl := lt_blk hs3.seen
   have hdl7 : d < wc.heap.size := by have := hB7.size; omega
   have g3' : wc.cell? ⟨d, 3, none⟩ = some (.int .i64 c.heads) := (hB7.cell (p := ⟨d, 3, none⟩) hdl).trans g3
   have g8' : wc.cell? ⟨d, 8, none⟩ = some (.int .i64 c.width) := (hB7.cell (p := ⟨d, 8, none⟩) hdl).trans g8
   have hMK := hide hmK
   have hMV := hide hmV
   clear hmK hmV
   go_wp2
   go_loopw [16, 17] (fun o i wr => ∃ h fr : Nat, h ≤ c.heads ∧ Hid (fr = h * (2 * c.pairs)) ∧ i = .int .i64 h ∧ wr.ownsRow wc.heap.size 3 1 o fr ((List.range fr).map fun i => .int .i64 (attOf c p (qNew c l p x) KF VF i)) ∧ Below wc.heap.size wc wr) (fun _ i _ => c.heads - (intOf i).toNat)
   case atStart => exact ⟨0, 0, by omega, by show 0 = 0 * _; simp, rfl, World.ownsRow_nil _ _ _ _, Below.refl _ _⟩
   case round =>
     obtain ⟨h, fr, hh, Hfr, rfl, hown, hbel⟩ := hrel
     have hsz := hbel.size
     have c3 := (hbel.cell (p := ⟨d, 3, none⟩) hdl7).trans g3'
     by_cases hlt : h < c.heads
     · have hfit : fr + 2 * c.pairs ≤ c.width := by
         have := Nat.mul_le_mul_right (2 * c.pairs) (show h + 1 ≤ c.heads from hlt)
         rw [Nat.add_mul] at this
         rw [hwd2.out, Hfr.out]; omega
       have hsr := hs3.below hbel
       have c4 : wr.cell? ⟨d, 4, none⟩ = some (.int .i64 c.pairs) := by
         obtain ⟨_, _, _, _, _, q4, _⟩ := (hd.below (hB7.trans (hbel.mono hB7.size))).cells
         exact q4
       have hd1 := refhead_any d s c.layers l h p c.width c.pairs fr _ _ q _ _ (qNew c l p x) KF VF wr (by omega) (by omega) c4 (by rw [cell_blk hsr.seen]; rfl) (by rw [cell_blk hsr.seen]; rfl) (hsr.keyRow (by omega)) (hsr.valRow (by omega)) hl (hMK.out.below hbel) (hMV.out.below hbel) (hq.keep (KeepT.of_below hbel)).ints b1 b2 (by omega) Hfr.out hfit (by omega) (by omega) (by omega) (qNew_bd _ _ _ _) bKF bVF
       have Hd := hide hd1
       clear hd1 hsr c4
       go_wp2_with fail
       refine Hd.out.mono ?_
       rintro e w3 ⟨r, rfl, hr, hb3⟩
       obtain ⟨br, cr, er, hrT⟩ : ∃ br cr, r = .slice (some ⟨br, 0, none⟩) (2 * c.pairs) cr ∧ IntsT w3 (.slice (some ⟨br, 0, none⟩) (2 * c.pairs) cr) (2 * c.pairs) (fun i => headAt p (fun t => scoreOf fr (2 * c.pairs) (qNew c l p x) (KF t)) (fun t => VF t (fr + i))) := by
         rcases OwnI.of_owns hr with ⟨_, h0⟩ | ⟨b, cap, rfl, ho⟩
         · omega
         · exact ⟨b, cap, rfl, ho.ints⟩
       subst er
       have hown3 := owns_below hown hb3
       have hbel3 := hbel.trans (hb3.mono hsz)
       have hsz3 := hbel3.size
       clear Hd
       go_wp2_with (at_builtin; refine wpList_append_own _ rfl _ _ 36 rfl wc.heap.size 3 i0 (.int .i64 0) 1 8 Tryz.underlying36 hi hz0 hz1 hz2 rfl (by decide) _ _ _ rfl hown3 ⟨br, 0, none⟩ (2 * c.pairs) cr ((List.range (2 * c.pairs)).map fun i => .int .i64 (headAt p (fun t => scoreOf fr (2 * c.pairs) (qNew c l p x) (KF t)) (fun t => VF t (fr + i)))) rfl (by simp) hrT.news (ints_one _ _) (by unfold maxLen; omega) (by omega) hsz3 ?_; intro v' w4 hown' hgrow _)
       have hbel4 : Below wc.heap.size wc w4 := hbel3.grown hgrow hsz3 (fun g hg => (hown3.lt g hg).1)
       have e1 : ((List.range (2 * c.pairs)).map fun i => Value.int .i64 (headAt p (fun t => scoreOf fr (2 * c.pairs) (qNew c l p x) (KF t)) (fun t => VF t (fr + i)))) = (List.range (2 * c.pairs)).map (fun i => (fun i => Value.int .i64 (attOf c p (qNew c l p x) KF VF i)) (fr + i)) := by
         apply List.map_congr_left
         intro i hi
         have := List.mem_range.1 hi
         show _ = Value.int .i64 (attOf c p (qNew c l p x) KF VF (fr + i))
         have ef := Hfr.out
         subst ef
         rw [att_at c p h i _ KF VF this]
       rw [e1, ← range_map_add] at hown'
       clear hown hown3 hgrow e1 hr hrT
       go_wp2
       go_roundw
       case rel => exact ⟨h + 1, fr + 2 * c.pairs, by omega, by show fr + 2 * c.pairs = (h + 1) * (2 * c.pairs); rw [Nat.add_mul, Hfr.out]; omega, by go_num, hown', hbel4⟩
       case measure => simp [intOf]; omega
     · have hhe : h = c.heads := by omega
       have hfw : fr = c.width := by rw [hwd2.out, Hfr.out, hhe]
       subst hfw
       have hatt := IntsT.of_owns hown
       obtain ⟨W1, rfl⟩ : ∃ W1, W1 = wr := ⟨_, rfl⟩
       have hB8 := hB7.trans (hbel.mono hB7.size)
       replace hs3 := hs3.below hbel
       replace hx := hx.keep (KeepT.of_below hbel)
       have d8 := (hbel.cell (p := ⟨d, 8, none⟩) hdl7).trans g8'
       clear hown hbel hq hMK hMV g3' g8' hdl7
       go_wp2_with fail
       rw [show ((c.from l : Int) + 3 * c.ww) = ((c.from l + 3 * c.ww : Nat) : Int) by simp]
       refine (reftimes_T c hc W0 _ d (c.from l + 3 * c.ww) c.width c.width _ _ hd hB8 hatt (by exact Hfit.out 3 (by omega)) (by omega) (by omega) (attOf_bd _ _ _ _ _ bVF)).mono ?_
       rintro e W2 ⟨va, rfl, hva, hb⟩
       have hB9 := hB8.trans (hb.mono hB8.size)
       replace hs3 := hs3.below hb
       replace hx := hx.keep (KeepT.of_below hb)
       clear hb hatt hB8 d8
       go_wp2_with fail
       refine (refplus_T c.width _ _ _ _ _ hx hva (by omega) bx (mulAt_bd _ _ _ _)).mono ?_
       rintro e W3 ⟨vm, rfl, hvm, hb⟩
       have hB10 := hB9.trans (hb.mono hB9.size)
       replace hs3 := hs3.below hb
       have d8 := (hB10.cell (p := ⟨d, 8, none⟩) hdl).trans g8
       have hdl10 : d < W3.heap.size := by have := hB10.size; omega
       have hBn : Below W3.heap.size W3 W3 := Below.refl _ _
       clear hb hva hB9 hx
       obtain ⟨xm, exm⟩ : ∃ xm, xm = xMid c l x (attOf c p (qNew c l p x) KF VF) := ⟨_, rfl⟩
       have hvm' : IntsT W3 vm c.width xm := by rw [exm]; exact hvm
       have bxm : ∀ j, -4095 ≤ xm j ∧ xm j ≤ 4095 := by rw [exm]; exact plusOf_bd _ _
       have Hxm := hide exm
       clear hvm exm
       have hwr4 : IntKind.i64.wrap (4 * (c.ww : Int)) = 4 * c.ww := wrap_in (by omega) (by omega)
       have hwr5 : IntKind.i64.wrap ((c.from l : Int) + 4 * c.ww) = c.from l + 4 * c.ww := wrap_in (by omega) (by omega)
       have hwr6 : IntKind.i64.wrap (2 * (c.width : Int)) = 2 * c.width := wrap_in (by omega) (by omega)
       have hst4 : Hid (c.from l + 4 * c.ww + 2 * c.width * c.width ≤ c.many) := by
         have h5 := Hfit.out 5 (by omega)
         have e : c.ww = c.width * c.width := rfl
         show c.from l + 4 * c.ww + 2 * c.width * c.width ≤ c.many
         rw [Nat.mul_assoc]; omega
       go_wp2
       go_region_held3 (fun w' => w'.cell? ⟨d, 8, none⟩ = some (.int .i64 c.width))
         (exact (hBn.cell (p := ⟨d, 8, none⟩) hdl10).trans d8)
         (first
           | (go_at_call 80; refine (refnorm_T c.width _ vm xm (by exact hvm') (by omega) (by omega) bxm).mono ?_; rintro e x4 ⟨ym, rfl, hym, hbA⟩; replace hbA := below_of_drewN (k := 1) hbA; replace hBn := hBn.trans (hbA.mono hBn.size))
           | (go_at_call 79; rw [show ((c.from l : Int) + 4 * c.ww) = ((c.from l + 4 * c.ww : Nat) : Int) by simp, show (2 * (c.width : Int)) = ((2 * c.width : Nat) : Int) by simp]; refine (reftimes_O c hc W0 _ d (c.from l + 4 * c.ww) (2 * c.width) c.width ym _ hd (hB10.trans (hBn.mono hB10.size)) hym hst4.out (by omega) (by omega) (by omega) (normOf_bd _ _)).mono ?_; rintro e x5 ⟨bz, cz, rfl, hz, hbB⟩; have hBx := hBn; replace hBn := hBn.trans (hbB.mono hBn.size)))
       have hBz := hB10.trans (hBx.mono hB10.size)
       have hs4 := hs3.below hBx
       have hvm4 := hvm'.keep (KeepT.of_below hBx)
       clear hwr4 hwr5 hwr6 hst4 hbA hym hs3 hvm' hBn hBx d8
       go_wp2
       go_loopw [19] (fun i wr => ∃ k : Nat, k ≤ 2 * c.width ∧ i = .int .i64 k ∧ OwnI x4.heap.size wr bz cz (2 * c.width) (fun j => if j < k then zOf c l xm j else mulAt c.weight (c.from l + 4 * c.ww) c.width (normOf c.width xm) j) ∧ Below x4.heap.size x4 wr) (fun i _ => 2 * c.width - (intOf i).toNat)
       case atStart => exact ⟨0, by omega, rfl, hz.congr (fun j _ => by simp), hbB⟩
       case round =>
         obtain ⟨k, hk, rfl, ho, hbel⟩ := hrel
         by_cases hlt : k < 2 * c.width
         · have c0 := ho.cell k hlt
           have f0 := ho.frozen k
           simp only [Nat.lt_irrefl, if_false] at c0
           have hz' : zOf c l xm k = notNeg (mulAt c.weight (c.from l + 4 * c.ww) c.width (normOf c.width xm) k) := rfl
           have bm := mulAt_bd c.weight (c.from l + 4 * c.ww) c.width (normOf c.width xm) k
           have Hz := hide hz'
           have Ho := hide ho
           clear hz' ho
           obtain ⟨m, em⟩ : ∃ m, m = mulAt c.weight (c.from l + 4 * c.ww) c.width (normOf c.width xm) k := ⟨_, rfl⟩
           rw [← em] at c0 bm
           have Hem := hide em
           clear em
           by_cases hneg : m < 0
           · go_wp2
             go_roundw
             case rel =>
               refine ⟨k + 1, by omega, by go_num, (Ho.out.set k 0).congr (fun j hj => ?_), hbel.setCell Ho.out.ge _⟩
               by_cases e1 : j = k
               · subst e1; rw [if_pos rfl, if_pos (by omega), Hz.out, ← Hem.out]; unfold notNeg; rw [if_pos hneg]
               · simp only [if_neg e1]
                 by_cases e2 : j < k
                 · rw [if_pos e2, if_pos (by omega)]
                 · rw [if_neg e2, if_neg (by omega)]
             case measure => simp [intOf]; omega
           · go_wp2
             go_roundw
             case rel =>
               refine ⟨k + 1, by omega, by go_num, Ho.out.congr (fun j hj => ?_), hbel⟩
               by_cases e1 : j = k
               · subst e1; rw [if_neg (by omega), if_pos (by omega), Hz.out, ← Hem.out]; unfold notNeg; rw [if_neg hneg]
               · by_cases e2 : j < k
                 · rw [if_pos e2, if_pos (by omega)]
                 · rw [if_neg e2, if_neg (by omega)]
             case measure => simp [intOf]; omega
         · have hzz := (ho.congr (g' := zOf c l xm) (fun j hj => by rw [if_pos (by omega)])).ints
           obtain ⟨W4, rfl⟩ : ∃ W4, W4 = wr := ⟨_, rfl⟩
           have hB11 := hBz.trans (hbel.mono hBz.size)
           replace hs4 := hs4.below hbel
           replace hvm4 := hvm4.keep (KeepT.of_below hbel)
           have d8 := (hB11.cell (p := ⟨d, 8, none⟩) hdl).trans g8
           clear ho hz hbB hbel
           go_wp2_with fail
           rw [show ((c.from l : Int) + 6 * c.ww) = ((c.from l + 6 * c.ww : Nat) : Int) by simp]
           have hst6 : c.from l + 6 * c.ww + c.width * (2 * c.width) ≤ c.many := by
             have h7 := Hfit.out 7 (by omega)
             have e : c.ww = c.width * c.width := rfl
             rw [Nat.mul_left_comm]; omega
           refine (reftimes_T c hc W0 _ d (c.from l + 6 * c.ww) c.width (2 * c.width) _ _ hd hB11 hzz hst6 (by omega) (by omega) (zOf_bd _ _ _)).mono ?_
           rintro e W5 ⟨vb, rfl, hvb, hb⟩
           have hB12 := hB11.trans (hb.mono hB11.size)
           replace hs4 := hs4.below hb
           replace hvm4 := hvm4.keep (KeepT.of_below hb)
           clear hb hzz hB11 d8
           go_wp2_with fail
           refine (refplus_T c.width _ _ _ _ _ hvm4 hvb (by omega) bxm (mulAt_bd _ _ _ _)).mono ?_
           rintro e W6 ⟨vr, rfl, hvr, hb⟩
           have hB13 := hB12.trans (hb.mono hB12.size)
           replace hs4 := hs4.below hb
           go_wp2
           go_ret
           refine ⟨_, _, _, rfl, hB13, hs4, ?_⟩
           rw [← HeK.out, ← HeV.out]
           have e9 : xNext c l p x KF VF = plusOf xm (mulAt c.weight (c.from l + 6 * c.ww) (2 * c.width) (zOf c l xm)) := by rw [Hxm.out]; rfl
           rw [e9]
           exact hvr
end Go.Proofs.YtlmflighkkgikaaGreat
