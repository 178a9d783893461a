import Derived.Test.YtlmflighkkgikaaP12

namespace Go.Proofs.Ytlmflighkkgikaa
open Go.RowKit
attribute [local go_sem ↓] Go.wp_at_zero Go.wp_at_succ
def Mems (w : World) (v : Value) (n m : Nat) (kf vf : Nat → Nat → Int) : Prop :=
 ∃ a c, v = .slice a n c ∧ n ≤ c ∧ c ≤ maxLen ∧ (0 < n → ∃ b off, a = some ⟨b, off, none⟩ ∧ b < w.heap.size ∧
   ∀ t, t < n → ∃ vk vv, w.cell? ⟨b, off + t * 2, none⟩ = some vk ∧ w.cell? ⟨b, off + t * 2 + 1, none⟩ = some vv ∧ IntsT w vk m (kf t) ∧ IntsT w vv m (vf t))
theorem IntsT.sub {w : World} {b off n c : Nat} {g : Nat → Int} (h : IntsT w (.slice (some ⟨b, off, none⟩) n c) n g) (lo k : Nat) (hk : lo + k ≤ n) : IntsT w (.slice (some ⟨b, off + lo, none⟩) k (c - lo)) k (fun j => g (lo + j)) := by
 obtain ⟨a, c', e, h1, h2, h3⟩ := h
 injection e with e1 _ e2
 subst e1 e2
 refine ⟨_, _, rfl, by omega, by omega, fun hk0 => ?_⟩
 obtain ⟨b', off', cur, fr, e, hb, hc⟩ := h3 (by omega)
 injection e with e
 injection e with e1 e2
 subst e1 e2
 exact ⟨b, off + lo, cur, fr, rfl, hb, fun j hj => by rw [Nat.add_assoc]; exact hc (lo + j) (by omega)⟩
theorem IntsT.cell {w : World} {b off n c : Nat} {g : Nat → Int} (h : IntsT w (.slice (some ⟨b, off, none⟩) n c) n g) : ∀ j, j < n → w.cell? ⟨b, off + j, none⟩ = some (.int .i64 (g j)) := by
 intro j hj
 obtain ⟨a, c', e, _, _, h3⟩ := h
 injection e with e1 _ e2
 subst e1
 obtain ⟨b', off', cur, fr, e, hb, hc⟩ := h3 (by omega)
 injection e with e
 injection e with e1 e2
 subst e1 e2
 rw [cell_blk hb]; exact hc j hj
def stepped (f : Nat → Nat → Int) (t j i : Nat) : Int := sumTo (f i) (if i < j then t + 1 else t)
set_option maxRecDepth 100000 in
set_option maxHeartbeats 2000000 in
theorem dhead_any (n m lo k2 : Nat) (vq vs : Value) (q : Nat → Int) (kf vf : Nat → Nat → Int) (w : World) (hq : IntsT w vq m q) (hs : Mems w vs n m kf vf) (hn1 : 1 ≤ n) (hn : n ≤ 1000) (hm : m ≤ 100) (hk1 : 1 ≤ k2) (hk4 : k2 ≤ 4) (hlo : lo + k2 ≤ m)
   (bq : ∀ j, -4095 ≤ q j ∧ q j ≤ 4095) (bk : ∀ t j, -4095 ≤ kf t j ∧ kf t j ≤ 4095) (bv : ∀ t j, -4095 ≤ vf t j ∧ vf t j ≤ 4095) :
   Calls Try.prog 86 #[vq, vs, .int .i64 lo, .int .i64 ((lo : Int) + (k2 : Int))] w fun e w' =>
     ∃ r, e = .returned r ∧ IntsT w' r k2 (fun i => headAt (n - 1) (fun t => scoreOf lo k2 q (kf t)) (fun t => vf t (lo + i))) ∧ Below w.heap.size w w' := by
 obtain ⟨as1, cs1, rfl, hs1, hs2, hs3⟩ := hs
 obtain ⟨bs, os, rfl, hbs, hcs⟩ := hs3 (by omega)
 obtain ⟨aq, cq, rfl, hq1, hq3⟩ := hq.at
 obtain ⟨bqq, oq, rfl, hbq, hcq⟩ := hq3 (by omega)
 have Hcs := hide hcs
 have hmk := run_make_row' (P := Try.prog) 24 3 (.int .i64 0) 8 Try.underlying24 Try.info_int rfl .i64 .i64 n (by omega) (by omega)
 have hmk2 := run_make_row' (P := Try.prog) 24 3 (.int .i64 0) 8 Try.underlying24 Try.info_int rfl .i64 .i64 k2 (by omega) (by omega)
 clear hcs hs3 hcq hq3
 go_enter Try.func86, Try.ntmps86
 go_wp2
 clear hmk
 go_loopw [24] (fun i wr => ∃ k : Nat, k ≤ n ∧ i = .int .i64 k ∧ wr.rowIs w.heap.size 3 n (fun j => .int .i64 (filled (fun t => scoreOf lo k2 q (kf t)) k j)) ∧ Below w.heap.size w wr) (fun i _ => n - (intOf i).toNat)
 case atStart => exact ⟨0, Nat.zero_le _, rfl, fill_start w n _, (Below.refl _ _).alloc (Nat.le_refl _) _⟩
 case round =>
   obtain ⟨k, hk, rfl, hrow, hbel⟩ := hrel
   have hsz := hbel.size
   by_cases hlt : k < n
   · obtain ⟨vk, vv, d1, d2, hvk, hvv⟩ := Hcs.out k hlt
     replace d1 := (hbel.cell (p := ⟨bs, os + k * 2, none⟩) hbs).trans d1
     replace d2 := (hbel.cell (p := ⟨bs, os + k * 2 + 1, none⟩) hbs).trans d2
     replace hvk := hvk.keep (KeepT.of_below hbel)
     have hqr := hq.keep (KeepT.of_below hbel)
     obtain ⟨ak, ck, rfl, hk1', hk3⟩ := hvk.at
     obtain ⟨bk', ok, rfl, hbk, _⟩ := hk3 (by omega)
     obtain ⟨av, cv, rfl, hv1', hv3⟩ := hvv.at
     have c3 := hrow.cell hlt
     have c4 := hrow.frozen k
     have i1 : (0 : Int) ≤ (lo : Int) := by omega
     have i2 : (lo : Int) ≤ (lo : Int) + (k2 : Int) := by omega
     have i3 : (lo : Int) + (k2 : Int) ≤ (cq : Int) := by omega
     have i4 : (lo : Int) + (k2 : Int) ≤ (ck : Int) := by omega
     have hlt0 := hrow.lt
     have hne : ¬ wr.heap.size = w.heap.size := by omega
     have hne2 : ¬ w.heap.size = wr.heap.size := by omega
     have p1 := hqr.sub lo k2 hlo
     have p2 := hvk.sub lo k2 hlo
     obtain ⟨x1, x2⟩ := scoreOf_bd lo k2 q (kf k) hk4 bq (bk k)
     have g1 : ∀ o, (wr.alloc o).cell? ⟨w.heap.size, k, none⟩ = some (.int .i64 (filled (fun t => scoreOf lo k2 q (kf t)) k k)) := fun o => (World.cell?_alloc_past _ _ _ (by omega)).trans c3
     have g2 : ∀ o, (wr.alloc o).frozen? ⟨w.heap.size, k, none⟩ = false := fun o => (World.frozen?_alloc_past _ _ _ (by omega)).trans c4
     have f1 : ¬ cq = lo := by omega
     have f2 : ¬ ck = lo := by omega
     have f3 : ((lo : Int) + (k2 : Int)).toNat - lo = k2 := by omega
     have g3 : ∀ x o, ((wr.setCell ⟨w.heap.size, k, none⟩ x).alloc (.cells #[.slice (some ⟨bk', ok, none⟩) m ck, .slice av m cv] o)).cell? ⟨wr.heap.size, 0, none⟩ = some (.slice (some ⟨bk', ok, none⟩) m ck) := fun x o => by
       rw [World.cell?_alloc_at _ _ _ _ (by simp [World.setCell])]; rfl
     have hwr : IntKind.i64.wrap ((sumTo (fun j => q (lo + j) * kf k (lo + j)) k2).tdiv 256) = scoreOf lo k2 q (kf k) := by
       rw [wrap_in]
       · rfl
       · have : -67076100 ≤ (sumTo (fun j => q (lo + j) * kf k (lo + j)) k2).tdiv 256 := x1
         omega
       · have : (sumTo (fun j => q (lo + j) * kf k (lo + j)) k2).tdiv 256 ≤ 67076100 := x2
         omega
     clear hk3 hv3 hmk2
     go_wp2
     go_region_held3 (fun w' => w'.cell? ⟨wr.heap.size, 0, none⟩ = some (.slice (some ⟨bk', ok, none⟩) m ck))
       (go_keep)
       (first
         | (go_at_call 76; refine Calls_use (product_any k2 k2 _ _ (fun j => q (lo + j)) (fun j => kf k (lo + j)) _ (by exact p1.keep (KeepT.of_below (((Below.refl _ _).alloc (Nat.le_refl _) _).drew))) (by exact p2.keep (KeepT.of_below (((Below.refl _ _).alloc (Nat.le_refl _) _).drew))) (Nat.le_refl _) (by omega) (fun j => bq _) (fun j => bk _ _)) ?_))
     go_wp2
     go_roundw
     case rel => exact ⟨k + 1, by omega, by go_num, ((fill_step hrow rfl).alloc _).drew, ((hbel.setCell (Nat.le_refl _) _).alloc (by simp [World.setCell]; omega) _).drew⟩
     case measure => simp [intOf]; omega
   · have hkn : n = k := by omega
     subst hkn
     have hsc := fill_done hrow (by unfold maxLen; omega)
     obtain ⟨W1, rfl⟩ : ∃ W1, W1 = wr := ⟨_, rfl⟩
     have e1 : (lo : Int) + (k2 : Int) - (lo : Int) = (k2 : Int) := by omega
     clear hrow
     go_wp2_with fail
     refine (shares_any n _ (fun t => scoreOf lo k2 q (kf t)) _ (hsc.keep (KeepT.of_below ((Below.refl _ _).alloc (Nat.le_refl _) _))) (by omega) hn (fun j => scoreOf_bd lo k2 q (kf j) hk4 bq (bk j))).mono ?_
     rintro e w2 ⟨rfl, hsh, hb2⟩
     have hsz2 := hb2.size
     simp at hsz2
     have hrow : w2.rowIs W1.heap.size 3 k2 (fun i => .int .i64 (stepped (fun i t => shareAt (n - 1) (fun t => scoreOf lo k2 q (kf t)) t * vf t (lo + i)) 0 0 i)) :=
       ((World.rowIs_made W1 (.int .i64 0) k2 3).of_block (hb2.block _ (by simp))).congr (fun i _ => by simp [stepped, sumTo])
     have hbel2 : Below W1.heap.size W1 w2 := ((Below.refl _ _).alloc (Nat.le_refl _) _).trans (hb2.mono (by simp))
     have Hcsh := hide hsh.cell
     clear hsh hb2 hmk2 e1
     go_wp2
     go_loopw [13, 51] (fun al i wr => ∃ t : Nat, t ≤ n ∧ i = .int .i64 t ∧ al = .int .i64 (sumTo (shareAt (n - 1) (fun t => scoreOf lo k2 q (kf t))) t) ∧
         wr.rowIs W1.heap.size 3 k2 (fun i => .int .i64 (stepped (fun i t => shareAt (n - 1) (fun t => scoreOf lo k2 q (kf t)) t * vf t (lo + i)) t 0 i)) ∧ Below W1.heap.size W1 wr ∧
         Hid (∀ j, j < n → wr.cell? ⟨W1.heap.size + 1, 0 + j, none⟩ = some (.int .i64 (shareAt (n - 1) (fun t => scoreOf lo k2 q (kf t)) j)))) (fun _ i _ => n - (intOf i).toNat)
     case atStart => exact ⟨0, by omega, rfl, rfl, hrow, hbel2, by simpa using Hcsh⟩
     case round =>
       clear hrow hbel2 Hcsh
       obtain ⟨t, ht, rfl, rfl, hrow, hbel2, Hcsh⟩ := hrel
       obtain ⟨hA1, hA2⟩ := shares_bd (n - 1) t (fun t => scoreOf lo k2 q (kf t))
       by_cases htl : t < n
       · obtain ⟨vk, vv, d1, d2, hvk, hvv⟩ := Hcs.out t htl
         replace d2 := (hbel2.cell (p := ⟨bs, os + t * 2 + 1, none⟩) (by show bs < _; omega)).trans ((hbel.cell (p := ⟨bs, os + t * 2 + 1, none⟩) hbs).trans d2)
         obtain ⟨av, cv, rfl, hv1', hv3⟩ := hvv.at
         obtain ⟨bv', ov, rfl, hbv, hcv⟩ := hv3 (by omega)
         have s1 := Hcsh.out t htl
         simp only [Nat.zero_add] at s1
         obtain ⟨hS1, hS2⟩ := shareAt_bd (n - 1) (fun t => scoreOf lo k2 q (kf t)) t
         have HcV := hide (hvv.sub lo k2 hlo).cell
         have i1 : (0 : Int) ≤ (lo : Int) := by omega
         have i2 : (lo : Int) ≤ (lo : Int) + (k2 : Int) := by omega
         have i3 : (lo : Int) + (k2 : Int) ≤ (cv : Int) := by omega
         have f2 : ¬ cv = lo := by omega
         have f3 : ((lo : Int) + (k2 : Int)).toNat - lo = k2 := by omega
         clear hcv hv3 d1 hvk hvv
         obtain ⟨W3, rfl⟩ : ∃ W3, W3 = wr := ⟨_, rfl⟩
         go_wp2
         go_loopw [68] (fun i wr => ∃ j : Nat, j ≤ k2 ∧ i = .int .i64 j ∧ wr.rowIs W1.heap.size 3 k2 (fun i => .int .i64 (stepped (fun i t => shareAt (n - 1) (fun t => scoreOf lo k2 q (kf t)) t * vf t (lo + i)) t j i)) ∧ Below W1.heap.size W1 wr ∧
             Hid (∀ j, j < n → wr.cell? ⟨W1.heap.size + 1, 0 + j, none⟩ = some (.int .i64 (shareAt (n - 1) (fun t => scoreOf lo k2 q (kf t)) j)))) (fun i _ => k2 - (intOf i).toNat)
         case atStart => exact ⟨0, by omega, rfl, hrow, hbel2, Hcsh⟩
         case round =>
           clear hrow hbel2 Hcsh s1 d2
           obtain ⟨j, hj, rfl, hrow, hbel2, Hcsh⟩ := hrel
           by_cases hjl : j < k2
           · have c1 := (hbel2.cell (p := ⟨bv', ov + lo + j, none⟩) (by show bv' < _; omega)).trans ((hbel.cell (p := ⟨bv', ov + lo + j, none⟩) hbv).trans (HcV.out j hjl))
             have c3 := hrow.cell hjl
             have c4 := hrow.frozen j
             have e2 : stepped (fun i t => shareAt (n - 1) (fun t => scoreOf lo k2 q (kf t)) t * vf t (lo + i)) t j j = sumTo (fun t => shareAt (n - 1) (fun t => scoreOf lo k2 q (kf t)) t * vf t (lo + j)) t := by simp [stepped]
             rw [e2] at c3
             obtain ⟨hT1, hT2⟩ := heads_bd (n - 1) t (fun t => scoreOf lo k2 q (kf t)) (fun t => vf t (lo + j)) (fun t => bv t _)
             obtain ⟨hU1, hU2⟩ := mul_bd (a := shareAt (n - 1) (fun t => scoreOf lo k2 q (kf t)) t) (b := vf t (lo + j)) (x := 65536) (y := 4095) ⟨by omega, hS2⟩ (bv t _)
             clear e2
             go_wp2
             go_roundw
             case rel =>
               refine ⟨j + 1, by omega, by go_num, (hrow.set j _).congr (fun i _ => ?_), hbel2.setCell (Nat.le_refl _) _, fun j' hj' => ?_⟩
               · by_cases e : i = j
                 · subst e; rw [if_pos rfl]; simp [stepped, sumTo]
                 · rw [if_neg e]; simp only [stepped]
                   by_cases h1 : i < j
                   · rw [if_pos h1, if_pos (by omega)]
                   · rw [if_neg h1, if_neg (by omega)]
               · rw [World.cell?_setCell_other _ _ _ _ (by simp)]; exact Hcsh.out j' hj'
             case measure => simp [intOf]; omega
           · have hjk : k2 = j := by omega
             subst hjk
             go_wp2
             go_roundw
             case rel =>
               refine ⟨t + 1, by omega, by go_num, rfl, hrow.congr (fun i hi => ?_), hbel2, Hcsh⟩
               simp only [stepped]; rw [if_pos hi, if_neg (by omega)]
             case measure => simp [intOf]; omega
       · have htn : n = t := by omega
         subst htn
         have hpos := shares_pos (n - 1) (fun t => scoreOf lo k2 q (kf t))
         rw [show n - 1 + 1 = n by omega] at hpos
         obtain ⟨W3, rfl⟩ : ∃ W3, W3 = wr := ⟨_, rfl⟩
         go_wp2
         go_loopw [86] (fun i wr => ∃ j : Nat, j ≤ k2 ∧ i = .int .i64 j ∧ wr.rowIs W1.heap.size 3 k2 (fun i => .int .i64 (if i < j then headAt (n - 1) (fun t => scoreOf lo k2 q (kf t)) (fun t => vf t (lo + i)) else sumTo (fun t => shareAt (n - 1) (fun t => scoreOf lo k2 q (kf t)) t * vf t (lo + i)) n)) ∧ Below W1.heap.size W1 wr) (fun i _ => k2 - (intOf i).toNat)
         case atStart => exact ⟨0, by omega, rfl, hrow.congr (fun i _ => by simp [stepped]), hbel2⟩
         case round =>
           clear hrow hbel2 Hcsh
           obtain ⟨j, hj, rfl, hrow, hbel2⟩ := hrel
           by_cases hjl : j < k2
           · have c3 := hrow.cell hjl
             have c4 := hrow.frozen j
             rw [if_neg (by omega)] at c3
             obtain ⟨hT1, hT2⟩ := heads_bd (n - 1) n (fun t => scoreOf lo k2 q (kf t)) (fun t => vf t (lo + j)) (fun t => bv t _)
             have HH := hide (show headAt (n - 1) (fun t => scoreOf lo k2 q (kf t)) (fun t => vf t (lo + j)) = (sumTo (fun t => shareAt (n - 1) (fun t => scoreOf lo k2 q (kf t)) t * vf t (lo + j)) n).tdiv (sumTo (shareAt (n - 1) (fun t => scoreOf lo k2 q (kf t))) n) from by
               unfold headAt; rw [show n - 1 + 1 = n by omega])
             obtain ⟨hV1, hV2⟩ := tdiv_bd (s := sumTo (fun t => shareAt (n - 1) (fun t => scoreOf lo k2 q (kf t)) t * vf t (lo + j)) n) (c := sumTo (shareAt (n - 1) (fun t => scoreOf lo k2 q (kf t))) n) (b := 1000 * 268369920) (by omega) ⟨by omega, by omega⟩
             go_wp2
             go_roundw
             case rel =>
               refine ⟨j + 1, by omega, by go_num, (hrow.set j _).congr (fun i _ => ?_), hbel2.setCell (Nat.le_refl _) _⟩
               by_cases e : i = j
               · subst e; rw [if_pos rfl, if_pos (by omega), HH.out]
               · rw [if_neg e]
                 by_cases h1 : i < j
                 · rw [if_pos h1, if_pos (by omega)]
                 · rw [if_neg h1, if_neg (by omega)]
             case measure => simp [intOf]; omega
           · have hjk : k2 = j := by omega
             subst hjk
             go_wp2
             go_ret
             refine ⟨_, rfl, ?_, hbel.trans (hbel2.mono hbel.size)⟩
             obtain ⟨c, hb, hs, hc⟩ := hrow
             refine ⟨_, k2, rfl, Nat.le_refl _, by unfold maxLen; omega, fun _ => ⟨_, 0, c, (0, 0), rfl, hb, fun j hj => ?_⟩⟩
             have := hc j hj
             simp only [if_pos hj] at this
             simpa using this
end Go.Proofs.Ytlmflighkkgikaa
