import Derived.Test.YtlmflighkkgikaaP07
import Derived.Test.YtlmflighkkgikaaP20

namespace Go.Proofs.Ytlmflighkkgikaa
open Go.RowKit
attribute [local go_sem ↓] Go.wp_at_zero Go.wp_at_succ
theorem owns_ne {w : World} {base : Nat} {e ty : TypeId} {size : Nat} {v : Value} {n k : Nat} {xs : List Value} {arr : Array Value} {fr : Nat × Nat} (h : w.ownsRow base e size v n xs) (hk : w.heap[k]? = some (.cells arr ty fr)) (ht : ty ≠ e) : some k ≠ v.ownBlock := by
 intro e'
 obtain ⟨_, ⟨q1, q2⟩ | ⟨g, cap, cur, q1, _, hg, _⟩⟩ := h
 · rw [q1] at e'; cases e'
 · rw [q1] at e'
   simp only [Value.ownBlock] at e'
   injection e' with e'
   rw [← e', hk] at hg
   injection hg with hg
   injection hg with _ hg _
   exact ht hg
theorem owns_at {w : World} {base : Nat} {e : TypeId} {size : Nat} {v : Value} {n g : Nat} {xs : List Value} (h : w.ownsRow base e size v n xs) (hg : v.ownBlock = some g) {j : Nat} {u : Value} (hj : xs[j]? = some u) : w.cell? ⟨g, j, none⟩ = some u := by
 obtain ⟨hl, ⟨q1, q2⟩ | ⟨g', cap, cur, q1, _, hh, _, _, _, ht⟩⟩ := h
 · rw [q1] at hg; cases hg
 · rw [q1] at hg
   simp only [Value.ownBlock] at hg
   injection hg with hg
   subst hg
   rw [cell_blk hh]
   have hlt := (List.getElem?_eq_some_iff.1 hj).1
   rw [← ht, List.getElem?_take_of_lt (by omega)] at hj
   simpa using hj
theorem pairs_push {α : Type} (G : Nat → α) (a b : α) (l : Nat) : (List.range ((l + 1) * 2)).map (fun j => if j = l * 2 then a else if j = l * 2 + 1 then b else G j) = (List.range (l * 2)).map G ++ [a, b] := by
 rw [show (l + 1) * 2 = l * 2 + 1 + 1 by omega, List.range_succ, List.range_succ]
 simp only [List.map_append, List.map_cons, List.map_nil, if_true, if_neg (show ¬ l * 2 + 1 = l * 2 by omega), List.append_assoc, List.cons_append, List.nil_append]
 congr 1
 apply List.map_congr_left
 intro j hj
 have := List.mem_range.1 hj
 rw [if_neg (by omega), if_neg (by omega)]
theorem owns_form {w : World} {base : Nat} {e : TypeId} {size : Nat} {v : Value} {n : Nat} {xs : List Value} (h : w.ownsRow base e size v n xs) : ∃ a c, v = .slice a n c := by
 obtain ⟨_, ⟨q1, q2⟩ | ⟨g, cap, cur, q1, _⟩⟩ := h
 · exact ⟨none, 0, by rw [q1, q2]⟩
 · exact ⟨_, cap, q1⟩
set_option maxRecDepth 100000 in
set_option maxHeartbeats 4000000 in
theorem pass_new (c : Cfg) (hc : c.ok) (M tok p : Nat) (vp vE vH : Value) (bL oL cL : Nat) (kf vf : Nat → Nat → Nat → Int) (w : World) (hM : ModelI w M c vE vH bL oL cL) (hP : Past w vp p c.layers c.width kf vf) (ht : tok < c.vocab) (hp : p ≤ 100)
   (bk : ∀ t l j, -4095 ≤ kf t l j ∧ kf t l j ≤ 4095) (bv : ∀ t l j, -4095 ≤ vf t l j ∧ vf t l j ≤ 4095) :
   Calls Try.prog 56 #[.pointer (some ⟨M, 0, none⟩), .int .i64 tok, vp, .slice none 0 0] w fun e w' =>
     ∃ r cell, e = .returned (.tuple #[r, cell]) ∧ IntsT w' r c.width (xAt c p tok kf vf c.layers) ∧ CellI (fun b => w.heap.size ≤ b) w' cell c.layers c.width (fun l => kNew c l p (xAt c p tok kf vf l)) (fun l => vNew c l (xAt c p tok kf vf l)) ∧ Below w.heap.size w w' := by
 obtain ⟨i0, hi, hz0, hz1, hz2⟩ := info_parts Try.info_mem
 obtain ⟨w1, w2⟩ := c.width_bd hc
 obtain ⟨e1, e2⟩ := hc.layers
 obtain ⟨d1, d2⟩ := hc.vocab
 have hMl := lt_blk hM.obj
 have m0 : w.cell? ⟨M, 0, none⟩ = some (.int .i64 c.pairs) := by rw [cell_blk hM.obj]; rfl
 have m1 : w.cell? ⟨M, 1, none⟩ = some vE := by rw [cell_blk hM.obj]; rfl
 have m3 : w.cell? ⟨M, 3, none⟩ = some (.slice (some ⟨bL, oL, none⟩) c.layers cL) := by rw [cell_blk hM.obj]; rfl
 obtain ⟨es, ⟨aE, cE, rfl, hE1, _, hE3⟩, hEr⟩ := hM.emb
 obtain ⟨bE, oE, rfl, hbE, hcE⟩ := hE3 (by omega)
 have cE1 := hcE tok ht
 have hemb := hEr tok ht
 obtain ⟨ap, cp, rfl⟩ : ∃ a c, vp = .slice a p c := by obtain ⟨_, ⟨a, c, rfl, _⟩, _⟩ := hP; exact ⟨a, c, rfl⟩
 clear hcE hE3 hEr
 go_enter Try.func56, Try.ntmps56
 go_wp2_with fail
 refine (emb_any c.width (es tok) _ _ hemb (by omega) (fun j => weightI_bd _ _)).mono ?_
 rintro e W1 ⟨vx, rfl, hx, hb1⟩
 have m3' := (hb1.cell (p := ⟨M, 3, none⟩) hMl).trans m3
 clear cE1
 go_wp2
 clear m3'
 go_loopw [3, 11, 33] (fun o x i wr => ∃ (l : Nat) (G : Nat → Value), l ≤ c.layers ∧ i = .int .i64 l ∧ IntsT wr x c.width (xAt c p tok kf vf l) ∧ wr.ownsRow w.heap.size 113 2 o l ((List.range (l * 2)).map G) ∧
     Hid (∀ t, t < l → IntsT wr (G (t * 2)) c.width (kNew c t p (xAt c p tok kf vf t)) ∧ IntsT wr (G (t * 2 + 1)) c.width (vNew c t (xAt c p tok kf vf t))) ∧ Hid (∀ t, t < l → okV (fun b => w.heap.size ≤ b) (G (t * 2)) ∧ okV (fun b => w.heap.size ≤ b) (G (t * 2 + 1))) ∧ Below w.heap.size w wr) (fun _ _ i _ => c.layers - (intOf i).toNat)
 case atStart => exact ⟨0, fun _ => undef, Nat.zero_le _, rfl, hx.congr (fun j _ => by simp only [xAt, Nat.zero_add]), World.ownsRow_nil _ _ _ _, fun t ht => absurd ht (by omega), fun t ht => absurd ht (by omega), hb1⟩
 case round =>
   obtain ⟨l, G, hl, rfl, hx, hown, HG, HGo, hbel⟩ := hrel
   clear hemb m1
   by_cases hlt : l < c.layers
   · obtain ⟨v0, v1, v2, v3, v4, v5, c0, c1, c2, c3, c4, c5, hL⟩ := hM.layer l hlt
     replace c0 := (hbel.cell (p := ⟨bL, oL + l * 6, none⟩) hM.lt).trans c0
     replace c1 := (hbel.cell (p := ⟨bL, oL + l * 6 + 1, none⟩) hM.lt).trans c1
     replace c2 := (hbel.cell (p := ⟨bL, oL + l * 6 + 2, none⟩) hM.lt).trans c2
     replace c3 := (hbel.cell (p := ⟨bL, oL + l * 6 + 3, none⟩) hM.lt).trans c3
     replace c4 := (hbel.cell (p := ⟨bL, oL + l * 6 + 4, none⟩) hM.lt).trans c4
     replace c5 := (hbel.cell (p := ⟨bL, oL + l * 6 + 5, none⟩) hM.lt).trans c5
     obtain ⟨a0, k0, rfl⟩ := mat_slice hL.q
     obtain ⟨a1, k1, rfl⟩ := mat_slice hL.k
     obtain ⟨a2, k2, rfl⟩ := mat_slice hL.v
     obtain ⟨a3, k3, rfl⟩ := mat_slice hL.o
     obtain ⟨a4, k4, rfl⟩ := mat_slice hL.up
     obtain ⟨a5, k5, rfl⟩ := mat_slice hL.down
     go_wp2_with fail
     have hbW : Below wr.heap.size wr (wr.alloc (.cells #[.slice a0 c.width k0, .slice a1 c.width k1, .slice a2 c.width k2, .slice a3 c.width k3, .slice a4 (2 * c.width) k4, .slice a5 c.width k5] 126)) := (Below.refl _ _).alloc (Nat.le_refl _) _
     have hLB := alloc_new wr (.cells #[.slice a0 c.width k0, .slice a1 c.width k1, .slice a2 c.width k2, .slice a3 c.width k3, .slice a4 (2 * c.width) k4, .slice a5 c.width k5] 126)
     have hszW : (wr.alloc (.cells #[.slice a0 c.width k0, .slice a1 c.width k1, .slice a2 c.width k2, .slice a3 c.width k3, .slice a4 (2 * c.width) k4, .slice a5 c.width k5] 126)).heap.size = wr.heap.size + 1 := by simp
     generalize wr.alloc (.cells #[.slice a0 c.width k0, .slice a1 c.width k1, .slice a2 c.width k2, .slice a3 c.width k3, .slice a4 (2 * c.width) k4, .slice a5 c.width k5] 126) = Wb at hbW hLB hszW ⊢
     have hBb := hbel.trans (hbW.mono hbel.size)
     replace hx := hx.keep (KeepT.of_below hbW)
     replace hown := owns_below' hown hbW
     have hLBl := lt_blk hLB
     have hMW : M < Wb.heap.size := by have := hBb.size; omega
     have m0b := (hBb.cell (p := ⟨M, 0, none⟩) hMl).trans m0
     have b0 : Wb.cell? ⟨wr.heap.size, 0, none⟩ = some (.slice a0 c.width k0) := by rw [cell_blk hLB]; rfl
     have b1 : Wb.cell? ⟨wr.heap.size, 1, none⟩ = some (.slice a1 c.width k1) := by rw [cell_blk hLB]; rfl
     have b2 : Wb.cell? ⟨wr.heap.size, 2, none⟩ = some (.slice a2 c.width k2) := by rw [cell_blk hLB]; rfl
     have b3 : Wb.cell? ⟨wr.heap.size, 3, none⟩ = some (.slice a3 c.width k3) := by rw [cell_blk hLB]; rfl
     have b4 : Wb.cell? ⟨wr.heap.size, 4, none⟩ = some (.slice a4 (2 * c.width) k4) := by rw [cell_blk hLB]; rfl
     have b5 : Wb.cell? ⟨wr.heap.size, 5, none⟩ = some (.slice a5 c.width k5) := by rw [cell_blk hLB]; rfl
     generalize wr.heap.size = LB at hLB hLBl b0 b1 b2 b3 b4 b5 hszW ⊢
     have hbW' : Below wr.heap.size wr Wb := hbW
     clear c0 c1 c2 c3 c4 c5 hbW hszW
     have hxb := xAt_bd c p tok kf vf l
     have HXS := hide (show xAt c p tok kf vf (l + 1) = xNext c l p (xAt c p tok kf vf l) (fun t => if t = p then kNew c l p (xAt c p tok kf vf l) else kf t l) (fun t => if t = p then vNew c l (xAt c p tok kf vf l) else vf t l) from rfl)
     generalize hXe : xAt c p tok kf vf l = X at hx hxb HXS ⊢
     have HXe := hide hXe
     clear hXe
     refine (dnorm_any c.width _ X _ hx (by omega) (by omega) hxb).mono ?_
     rintro e u1 ⟨y, rfl, hy, hb⟩
     have hBn := hb
     replace hx := hx.keep (KeepT.of_below hb)
     replace hown := owns_below' hown hb
     clear hb
     obtain ⟨ao, co, eo⟩ := owns_form hown
     subst eo
     have hLBu := (hBn.block LB hLBl).trans hLB
     have neL := owns_ne hown hLBu (by decide)
     have neM := owns_ne hown ((hBn.block M hMW).trans ((hBb.block M hMl).trans hM.obj)) (by decide)
     go_wp2_with fail
     go_region_held3 (fun w' => w'.cell? ⟨LB, 1, none⟩ = some (.slice a1 c.width k1) ∧ w'.cell? ⟨LB, 2, none⟩ = some (.slice a2 c.width k2) ∧ w'.cell? ⟨M, 0, none⟩ = some (.int .i64 c.pairs))
       (first
         | (exact ⟨z1, z2, z3⟩)
         | (exact ⟨(hBn.cell (p := ⟨LB, 1, none⟩) hLBl).trans b1, (hBn.cell (p := ⟨LB, 2, none⟩) hLBl).trans b2, (hBn.cell (p := ⟨M, 0, none⟩) hMW).trans m0b⟩)
         | (exact ⟨(World.cell?_alloc_past _ _ _ (Nat.lt_of_lt_of_le hLBl hBn.size)).trans ((hBn.cell (p := ⟨LB, 1, none⟩) hLBl).trans b1), (World.cell?_alloc_past _ _ _ (Nat.lt_of_lt_of_le hLBl hBn.size)).trans ((hBn.cell (p := ⟨LB, 2, none⟩) hLBl).trans b2), (World.cell?_alloc_past _ _ _ (Nat.lt_of_lt_of_le hMW hBn.size)).trans ((hBn.cell (p := ⟨M, 0, none⟩) hMW).trans m0b)⟩))
       (first
         | (go_at_call 70; refine (dturn_F c hc _ p _ _ (by exact hqq) (by omega) (mulAt_bd _ _ _ _)).mono ?_; rintro e u5 ⟨kk, rfl, hkk, hbB, hok⟩; replace hok : okV (fun b => w.heap.size ≤ b) kk := hok.mono (fun b hb => Nat.le_trans (Nat.le_trans hBb.size hBn.size) hb); replace hBn := hBn.trans (hbB.mono hBn.size); obtain ⟨ak, ck, ek, _⟩ := id hkk; subst ek)
         | (go_at_call 57; refine (dtimes_W c _ (c.from l + c.ww) c.width c.width _ y (normOf c.width X) (by exact (hL.below (hBb.trans (hBn.mono hBb.size))).k) (by exact hy) (by omega) (by omega) (normOf_bd _ _)).mono ?_; rintro e u4 ⟨qq, rfl, hqq, hbA⟩; replace hbA := below_of_drewN (k := 1) hbA; replace hBn := hBn.trans (hbA.mono hBn.size))
         | (go_at_call 57; refine (dtimes_G c _ (c.from l + 2 * c.ww) c.width c.width _ y (normOf c.width X) (by exact (hL.below (hBb.trans (hBn.mono hBb.size))).v) (by exact (hy.keep (KeepT.of_below hbA)).keep (KeepT.of_below hbB)) (by omega) (by omega) (normOf_bd _ _)).mono ?_; rintro e u6 ⟨vv, rfl, hvv, hbD, hov⟩; replace hov : okV (fun b => w.heap.size ≤ b) vv := hov.mono (fun b hb => Nat.le_trans (Nat.le_trans hBb.size hBn.size) hb); replace hBn := hBn.trans (hbD.mono hBn.size); obtain ⟨av, cv, ev, _⟩ := id hvv; subst ev)
         | ((refine step_append_lies _ (by rfl) _ _ _ (by rfl) w.heap.size 113 i0 _ 2 48 Try.underlying105 hi hz0 hz1 hz2 rfl (by omega) (.slice ao l co) l _ (by rfl) ((owns_below' hown ((hbA.trans (hbB.mono hbA.size)).trans (hbD.mono (Nat.le_trans hbA.size hbB.size)))).alloc _) ⟨u6.heap.size, 0, none⟩ 1 1 [.slice ak c.width ck, .slice av c.width cv] (by rfl) (by rfl) (World.news_of_block (cs := #[.slice ak c.width ck, .slice av c.width cv]) (t := 113) (fr := (0, 0)) (heap_alloc_new u6 _)) (by simp [Value.oneCell']) (by omega) (by unfold maxLen; omega) (by omega) (by have := hBb.size; have := hBn.size; simp; omega) (u6.heap.size + 1) (by simp) ?_); intro gg cap u7 hown7 hgrow hat hlt7; have z1 := hgrow.cell ((World.cell?_alloc_past _ _ _ (Nat.lt_of_lt_of_le hLBl hBn.size)).trans ((hBn.cell (p := ⟨LB, 1, none⟩) hLBl).trans b1)) neL; have z2 := hgrow.cell ((World.cell?_alloc_past _ _ _ (Nat.lt_of_lt_of_le hLBl hBn.size)).trans ((hBn.cell (p := ⟨LB, 2, none⟩) hLBl).trans b2)) neL; have z3 := hgrow.cell ((World.cell?_alloc_past _ _ _ (Nat.lt_of_lt_of_le hMW hBn.size)).trans ((hBn.cell (p := ⟨M, 0, none⟩) hMW).trans m0b)) neM))
     have hbU := (hbA.trans (hbB.mono hbA.size)).trans (hbD.mono (Nat.le_trans hbA.size hbB.size))
     have hownU := owns_below' hown hbU
     have hkg := KeepT.of_grown (e := 3) (hownU.alloc _) hgrow (by decide)
     have hkt := ((KeepT.of_below (e := 3) hbU).trans (KeepT.alloc _ _)).trans hkg
     have hkW := ((KeepT.of_below (e := 3) (hbW'.trans (hBn.mono hbW'.size))).trans (KeepT.alloc _ _)).trans hkg
     replace hx := hx.keep hkt
     replace hy := hy.keep hkt
     replace hkk := ((hkk.keep (KeepT.of_below hbD)).keep (KeepT.alloc _ _)).keep hkg
     replace hvv := (hvv.keep (KeepT.alloc _ _)).keep hkg
     have HG7 : Hid (∀ t, t < l → IntsT u7 (G (t * 2)) c.width (kNew c t p (xAt c p tok kf vf t)) ∧ IntsT u7 (G (t * 2 + 1)) c.width (vNew c t (xAt c p tok kf vf t))) := fun t ht => ⟨(HG.out t ht).1.keep hkW, (HG.out t ht).2.keep hkW⟩
     have hBw := hBb.trans (hBn.mono hBb.size)
     have hB7 : Below w.heap.size w u7 := (hBw.alloc hBw.size _).grown hgrow (by have := hBw.size; simp; omega) (fun g hg => (hownU.lt g hg).1)
     have hLB7 := (hgrow.block LB (by simp; have := Nat.lt_of_lt_of_le hLBl hBn.size; omega) neL).trans ((alloc_old _ _ _ (Nat.lt_of_lt_of_le hLBl hBn.size)).trans ((hBn.block LB hLBl).trans hLB))
     have r1 := owns_at hown7 rfl (j := l * 2) (u := .slice ak c.width ck) (by rw [List.getElem?_append_right (by simp)]; simp)
     have r2 := owns_at hown7 rfl (j := l * 2 + 1) (u := .slice av c.width cv) (by rw [List.getElem?_append_right (by simp)]; simp)
     have hggl := (hown7.lt gg rfl).2
     have Hok := hide hok
     have Hov := hide hov
     clear hbU hownU hkg hkt hkW hBw hok hov z1 z2 z3 hqq hbA hbB hbD hgrow hat hlt7 hown neL neM hLBu HG
     replace b0 : u7.cell? ⟨LB, 0, none⟩ = some (.slice a0 c.width k0) := by rw [cell_blk hLB7]; rfl
     clear b1 b2 b3 b4 b5
     replace hMW : M < u7.heap.size := by have := hB7.size; omega
     replace m0b := (hB7.cell (p := ⟨M, 0, none⟩) hMl).trans m0
     replace hLBl := lt_blk hLB7
     replace hBb := hB7
     replace hBn := Below.refl u7.heap.size u7
     have hLB := hLB7
     clear hB7 hLB7
     go_wp2_with fail
     go_region_held3 (fun w' => w'.cell? ⟨LB, 0, none⟩ = some (.slice a0 c.width k0) ∧ w'.cell? ⟨M, 0, none⟩ = some (.int .i64 c.pairs))
       (first
         | (exact ⟨(hBn.cell (p := ⟨LB, 0, none⟩) hLBl).trans b0, (hBn.cell (p := ⟨M, 0, none⟩) hMW).trans m0b⟩))
       (first
         | (go_at_call 57; refine (dtimes_W c _ (c.from l) c.width c.width _ y (normOf c.width X) (by exact (hL.below (hBb.trans (hBn.mono hBb.size))).q) (by exact hy) (by omega) (by omega) (normOf_bd _ _)).mono ?_; rintro e u8 ⟨qq, rfl, hqq, hbA⟩; replace hbA := below_of_drewN (k := 1) hbA; replace hBn := hBn.trans (hbA.mono hBn.size))
         | (go_at_call 70; refine (dturn_W c hc _ p _ _ (by exact hqq) (by omega) (mulAt_bd _ _ _ _)).mono ?_; rintro e Wc ⟨q, rfl, hq, hbB⟩; replace hBn := hBn.trans (hbB.mono hBn.size)))
     have hbC := hbA.trans (hbB.mono hbA.size)
     replace hx := hx.keep (KeepT.of_below hbC)
     replace hkk := hkk.keep (KeepT.of_below hbC)
     replace hvv := hvv.keep (KeepT.of_below hbC)
     have hBc := hBb.trans (hBn.mono hBb.size)
     have hLBc := (hBn.block LB hLBl).trans hLB
     have b3 : Wc.cell? ⟨LB, 3, none⟩ = some (.slice a3 c.width k3) := by rw [cell_blk hLBc]; rfl
     have b4 : Wc.cell? ⟨LB, 4, none⟩ = some (.slice a4 (2 * c.width) k4) := by rw [cell_blk hLBc]; rfl
     have b5 : Wc.cell? ⟨LB, 5, none⟩ = some (.slice a5 c.width k5) := by rw [cell_blk hLBc]; rfl
     have m0c := (hBc.cell (p := ⟨M, 0, none⟩) hMl).trans m0
     replace r1 := (hBn.cell (p := ⟨gg, l * 2, none⟩) hggl).trans r1
     replace r2 := (hBn.cell (p := ⟨gg, l * 2 + 1, none⟩) hggl).trans r2
     have hCBl := Nat.lt_of_lt_of_le hggl hBn.size
     have hownc := owns_below' hown7 hbC
     have HGc : Hid (∀ t, t < l → IntsT Wc (G (t * 2)) c.width (kNew c t p (xAt c p tok kf vf t)) ∧ IntsT Wc (G (t * 2 + 1)) c.width (vNew c t (xAt c p tok kf vf t))) := fun t ht => ⟨(HG7.out t ht).1.keep (KeepT.of_below hbC), (HG7.out t ht).2.keep (KeepT.of_below hbC)⟩
     clear hown7 HG7
     replace hLBl := lt_blk hLBc
     replace hMW := Nat.lt_of_lt_of_le hMl hBc.size
     clear hqq hbA hbB hbC hy hBn hBb hLB m0b b0 hggl
     have hPc := hP.below hBc
     obtain ⟨Wd, hWd⟩ : ∃ Wd, Wd = Wc := ⟨_, rfl⟩
     have j1 : (l : Int) < (l : Int) + 1 := by omega
     have j0 : (0 : Int) ≤ (l : Int) := by omega
     go_wp2_with fail
     go_cut [16, 33] from 33 to 102 (fun s i wd => i = .int .i64 l ∧ Below Wc.heap.size Wc wd ∧ Mems wd s (p + 1) c.width (fun t => if t = p then kNew c l p X else kf t l) (fun t => if t = p then vNew c l X else vf t l))
     case first =>
       go_region_held3 (fun w' => w'.cell? ⟨gg, l * 2, none⟩ = some (.slice ak c.width ck) ∧ w'.cell? ⟨gg, l * 2 + 1, none⟩ = some (.slice av c.width cv))
         (go_keep)
         (first
           | (go_at_call 71; refine (oflayer_any p c.layers c.width l _ kf vf _ (by exact hPc.below (by first | exact (Below.refl _ _).drew | exact ((Below.refl _ _).alloc (Nat.le_refl _) _).drew)) hlt (by omega) (by omega)).mono ?_; rintro e u8 ⟨F, rfl, hownF, hFk, hFv, hb⟩; have hBc8 : Below Wc.heap.size Wc u8 := (by first | exact ((Below.refl _ _).drew).trans (hb.mono (by simp)) | exact (((Below.refl _ _).alloc (Nat.le_refl _) _).drew).trans (hb.mono (by simp))); have s1 := (hBc8.cell (p := ⟨gg, l * 2, none⟩) hCBl).trans r1; have s2 := (hBc8.cell (p := ⟨gg, l * 2 + 1, none⟩) hCBl).trans r2)
           | ((refine step_append_lies _ (by rfl) _ _ _ (by rfl) Wc.heap.size 113 i0 _ 2 48 Try.underlying104 hi hz0 hz1 hz2 rfl (by omega) (.slice (some ⟨Wc.heap.size, 0, none⟩) p p) p _ (by rfl) (World.ownsRow.alloc hownF _) ⟨u8.heap.size, 0, none⟩ 1 1 [.slice ak c.width ck, .slice av c.width cv] (by rfl) (by rfl) (World.news_of_block (cs := #[.slice ak c.width ck, .slice av c.width cv]) (t := 113) (fr := (0, 0)) (heap_alloc_new u8 _)) (by simp [Value.oneCell']) (by omega) (by unfold maxLen; omega) (by omega) (by have := hb.size; simp at this ⊢; omega) (u8.heap.size + 1) (by simp) ?_); intro g9 cap9 u9' hown9 hgrow hat hlt9; have hBc9 : Below Wc.heap.size Wc u9' := (hBc8.alloc hBc8.size _).grown hgrow (by have := hBc8.size; simp; omega) (fun g hg => by simp [Value.ownBlock] at hg; omega); have z1 := (hBc9.cell (p := ⟨gg, l * 2, none⟩) hCBl).trans r1; have z2 := (hBc9.cell (p := ⟨gg, l * 2 + 1, none⟩) hCBl).trans r2; have hkg := KeepT.of_grown (e := 3) (World.ownsRow.alloc hownF _) hgrow (by decide); have hkt := ((KeepT.of_below hBc8).trans (KeepT.alloc _ _)).trans hkg; have hkF := ((KeepT.of_below (e := 3) hb).trans (KeepT.alloc _ _)).trans hkg)
           | ((refine step_append_lies _ (by rfl) _ _ _ (by rfl) (Wc.heap.size + 1) 113 i0 _ 2 48 Try.underlying104 hi hz0 hz1 hz2 rfl (by omega) (.slice (some ⟨Wc.heap.size + 1, 0, none⟩) p p) p _ (by rfl) (by simpa using hownF) ⟨Wc.heap.size, 0, none⟩ 1 1 [.slice ak c.width ck, .slice av c.width cv] (by rfl) (by rfl) (World.news_of_block (cs := #[.slice ak c.width ck, .slice av c.width cv]) (t := 113) (fr := (0, 0)) ((hb.block _ (by simp)).trans (heap_alloc_new Wc _))) (by simp [Value.oneCell']) (by omega) (by unfold maxLen; omega) (by omega) (by have := hb.size; simp at this ⊢; omega) u8.heap.size rfl ?_); intro g9 cap9 u9' hown9 hgrow hat hlt9; have hBc9 : Below Wc.heap.size Wc u9' := hBc8.grown hgrow hBc8.size (fun g hg => by simp [Value.ownBlock] at hg; omega); have z1 := (hBc9.cell (p := ⟨gg, l * 2, none⟩) hCBl).trans r1; have z2 := (hBc9.cell (p := ⟨gg, l * 2 + 1, none⟩) hCBl).trans r2; have hkg := KeepT.of_grown (e := 3) (base := Wc.heap.size + 1) (e' := 113) (size := 2) (n := p) (v := .slice (some ⟨Wc.heap.size + 1, 0, none⟩) p p) (xs := (List.range (p * 2)).map F) (by simpa using hownF) hgrow (by decide); have hkt := (KeepT.of_below hBc8).trans hkg; have hkF := (KeepT.of_below (e := 3) hb).trans hkg))
       all_goals go_wp2_with fail
       all_goals go_meet
       all_goals exact ⟨rfl, hBc9, mems_push hown9 (fun t ht => (hFk t ht).keep hkF) (fun t ht => (hFv t ht).keep hkF) (hkk.keep hkt) (hvv.keep hkt)⟩
     case rest =>
       obtain ⟨rfl, hBn, hseen⟩ := hcut
       replace hx := hx.keep (KeepT.of_below hBn)
       replace hq := hq.keep (KeepT.of_below hBn)
       have hbk : ∀ t j, -4095 ≤ (if t = p then kNew c l p X else kf t l) j ∧ (if t = p then kNew c l p X else kf t l) j ≤ 4095 := fun t j => by
         split
         · exact kNew_bd _ _ _ _ _
         · exact bk _ _ _
       have hbv : ∀ t j, -4095 ≤ (if t = p then vNew c l X else vf t l) j ∧ (if t = p then vNew c l X else vf t l) j ≤ 4095 := fun t j => by
         split
         · exact vNew_bd _ _ _ _
         · exact bv _ _ _
       go_wp2_with fail
       go_region_held3 (fun w' => w'.cell? ⟨LB, 3, none⟩ = some (.slice a3 c.width k3))
         (exact (hBn.cell (p := ⟨LB, 3, none⟩) hLBl).trans b3)
         (first
           | (go_at_call 73; refine (dattend_any c hc M (p + 1) _ _ (qNew c l p X) (fun t => if t = p then kNew c l p X else kf t l) (fun t => if t = p then vNew c l X else vf t l) _ (by exact Nat.lt_of_lt_of_le hMW hBn.size) (by exact (hBn.cell (p := ⟨M, 0, none⟩) hMW).trans m0c) (by exact hq) (by exact hseen) (by omega) (by omega) (qNew_bd _ _ _ _) hbk hbv).mono ?_; rintro e x1 ⟨att, rfl, hatt, hbA⟩; replace hbA := below_of_drewN (k := 1) hbA; replace hBn := hBn.trans (hbA.mono hBn.size))
           | (go_at_call 57; refine (dtimes_W c _ (c.from l + 3 * c.ww) c.width c.width _ att _ (hL.below (hBc.trans (hBn.mono hBc.size))).o hatt (by omega) (by omega) (attOf_bd c p _ _ _ hbv)).mono ?_; rintro e x2 ⟨oo, rfl, hoo, hbB⟩; replace hBn := hBn.trans (hbB.mono hBn.size))
           | (go_at_call 72; refine (dplus_any c.width _ _ X _ _ ((hx.keep (KeepT.of_below hbA)).keep (KeepT.of_below hbB)) hoo (by omega) hxb (mulAt_bd _ _ _ _)).mono ?_; rintro e x3 ⟨xm, rfl, hxm, hbC⟩; replace hBn := hBn.trans (hbC.mono hBn.size)))
       have exm : plusOf X (mulAt c.weight (c.from l + 3 * c.ww) c.width (attOf c (p + 1 - 1) (qNew c l p X) (fun t => if t = p then kNew c l p X else kf t l) (fun t => if t = p then vNew c l X else vf t l))) = xMid c l X (attOf c p (qNew c l p X) (fun t => if t = p then kNew c l p X else kf t l) (fun t => if t = p then vNew c l X else vf t l)) := rfl
       rw [exm] at hxm
       have hxmb : ∀ j, -4095 ≤ xMid c l X (attOf c p (qNew c l p X) (fun t => if t = p then kNew c l p X else kf t l) (fun t => if t = p then vNew c l X else vf t l)) j ∧ xMid c l X (attOf c p (qNew c l p X) (fun t => if t = p then kNew c l p X else kf t l) (fun t => if t = p then vNew c l X else vf t l)) j ≤ 4095 := fun j => plusOf_bd _ _ _
       unfold xNext at HXS
       generalize xMid c l X (attOf c p (qNew c l p X) (fun t => if t = p then kNew c l p X else kf t l) (fun t => if t = p then vNew c l X else vf t l)) = XM at hxm hxmb HXS
       clear hatt hoo hbA hbB hbC exm hq hseen hx hbk hbv
       go_wp2_with fail
       go_region_held3 (fun w' => w'.cell? ⟨LB, 4, none⟩ = some (.slice a4 (2 * c.width) k4))
         (exact (hBn.cell (p := ⟨LB, 4, none⟩) hLBl).trans b4)
         (first
           | (go_at_call 58; refine (dnorm_any c.width _ XM _ (by exact hxm) (by omega) (by omega) hxmb).mono ?_; rintro e x4 ⟨ym, rfl, hym, hbA⟩; replace hbA := below_of_drewN (k := 1) hbA; replace hBn := hBn.trans (hbA.mono hBn.size))
           | (go_at_call 57; refine (dtimes_W c _ (c.from l + 4 * c.ww) (2 * c.width) c.width _ ym _ (hL.below (hBc.trans (hBn.mono hBc.size))).up hym (by omega) (by omega) (normOf_bd _ _)).mono ?_; rintro e x5 ⟨uu, rfl, huu, hbB⟩; replace hBn := hBn.trans (hbB.mono hBn.size))
           | (go_at_call 74; refine (nbz_any (2 * c.width) _ _ _ huu (by omega)).mono ?_; rintro e x6 ⟨zz, rfl, hzz, hbC⟩; replace hBn := hBn.trans (hbC.mono hBn.size)))
       replace hxm := ((hxm.keep (KeepT.of_below hbA)).keep (KeepT.of_below hbB)).keep (KeepT.of_below hbC)
       clear hym huu hbA hbB hbC
       have b5' := (hBn.cell (p := ⟨LB, 5, none⟩) hLBl).trans b5
       go_wp2_with fail
       refine (dtimes_W c _ (c.from l + 6 * c.ww) c.width (2 * c.width) _ zz (zOf c l XM) (hL.below (hBc.trans (hBn.mono hBc.size))).down hzz (by omega) (by omega) (zOf_bd _ _ _)).mono ?_
       rintro e x7 ⟨dd, rfl, hdd, hbA⟩
       replace hBn := hBn.trans (hbA.mono hBn.size)
       replace hxm := hxm.keep (KeepT.of_below hbA)
       go_wp2_with fail
       refine (dplus_any c.width _ _ XM _ _ hxm hdd (by omega) hxmb (mulAt_bd _ _ _ _)).mono ?_
       rintro e x8 ⟨xn, rfl, hxn, hbB⟩
       replace hBn := hBn.trans (hbB.mono hBn.size)
       clear b5' hdd hxm hzz hbA hbB
       go_wp2_with fail
       go_roundw
       case rel =>
         refine ⟨l + 1, fun j => if j = l * 2 then .slice ak c.width ck else if j = l * 2 + 1 then .slice av c.width cv else G j, by omega, by go_num, ?_, ?_, fun t ht => ?_, fun t ht => ?_, hBc.trans (hBn.mono hBc.size)⟩
         · rw [HXS.out]; exact hxn
         · rw [pairs_push]; exact owns_below' hownc hBn
         · by_cases e : t = l
           · subst e
             simp only [if_true, if_neg (show ¬ t * 2 + 1 = t * 2 by omega)]
             rw [HXe.out]
             exact ⟨hkk.keep (KeepT.of_below hBn), hvv.keep (KeepT.of_below hBn)⟩
           · simp only [if_neg (show ¬ t * 2 = l * 2 by omega), if_neg (show ¬ t * 2 = l * 2 + 1 by omega), if_neg (show ¬ t * 2 + 1 = l * 2 by omega), if_neg (show ¬ t * 2 + 1 = l * 2 + 1 by omega)]
             exact ⟨(HGc.out t (by omega)).1.keep (KeepT.of_below hBn), (HGc.out t (by omega)).2.keep (KeepT.of_below hBn)⟩
         · by_cases e : t = l
           · subst e
             simp only [if_true, if_neg (show ¬ t * 2 + 1 = t * 2 by omega)]
             exact ⟨Hok.out, Hov.out⟩
           · simp only [if_neg (show ¬ t * 2 = l * 2 by omega), if_neg (show ¬ t * 2 = l * 2 + 1 by omega), if_neg (show ¬ t * 2 + 1 = l * 2 by omega), if_neg (show ¬ t * 2 + 1 = l * 2 + 1 by omega)]
             exact HGo.out t (by omega)
       case measure => simp [intOf]; omega
   · have hlL : c.layers = l := by omega
     rw [← hlL] at hx hown HG HGo ⊢
     go_wp2
     go_ret2
     refine ⟨_, _, rfl, hx, ?_, hbel⟩
     obtain ⟨_, ⟨_, q2⟩ | ⟨g, cap, cur, rfl, hg, hh, q1, q2, q3, q4⟩⟩ := hown
     · omega
     · refine ⟨g, cap, cur, (0, 0), rfl, q1, q2, hh, fun t ht => ?_⟩
       have cell : ∀ j, j < c.layers * 2 → cur[j]? = some (G j) := fun j hj => by
         have h1 := congrArg (fun l => l[j]?) q4
         simp [hj] at h1
         simpa using h1
       exact ⟨_, _, cell _ (by omega), cell _ (by omega), (HG.out t ht).1, (HG.out t ht).2, (HGo.out t ht).1, (HGo.out t ht).2⟩
end Go.Proofs.Ytlmflighkkgikaa
