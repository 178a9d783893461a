import Derived.Deep.CutRange
import Derived.BigQuiet
import Derived.Test.YtlmflighkkgikaaP24
import Derived.Test.YtlmflighkkgikaaP49
import Derived.Test.YtlmflighkkgikaaP51
import Derived.Test.YtlmflighkkgikaaP53

namespace Go.Proofs.Ytlmflighkkgikaa
open Go.RowKit
attribute [local go_sem ↓] Go.wp_at_zero Go.wp_at_succ
set_option maxRecDepth 100000 in
set_option maxHeartbeats 8000000 in
theorem pieces_any (s : ShapeD) (hs : s.ok) (sl : Int) (h1 : kI sl) (vr : Value) (nr : Nat) (fr : Nat → Int) (vc : Value) (nc : Nat) (fc : Nat → Int) (mo : Int) (h4 : kI mo) (w : World) (hR : Ints w vr nr fr) (hRf : ∀ j, j < nr → kI (fr j)) (hC : Ints w vc nc fc) (hCf : ∀ j, j < nc → kI (fc j)) :
   Calls Try.prog 3 #[.agg #[.int .i64 s.l, .int .i64 s.h, .int .i64 s.p, .int .i64 s.v, .int .i64 s.s], .int .i64 sl, vr, vc, .int .i64 mo] w fun e w' => e = .returned (.bool true) ∧ Below w.heap.size w w' := by
 obtain ⟨i0, hi, hz0, hz1, hz2⟩ := info_parts Try.info_int
 obtain ⟨ac, cc, evc, hc1, hc2, hc3⟩ := id hC
 subst evc
 have Hc3 := hide hc3
 clear hc3
 unfold maxLen at hc2
 have p1 := kpick_lt (c := sl) (n := 4) (by decide)
 have pm := kpick_lt (c := mo) (n := 6) (by decide)
 obtain ⟨n1, en1⟩ : ∃ n1 : Nat, 1 + pickI sl 4 = n1 := ⟨(1 + pickI sl 4).toNat, by omega⟩
 obtain ⟨nk, enk⟩ : ∃ nk : Nat, pickI mo 6 = nk := ⟨(pickI mo 6).toNat, by omega⟩
 have w1 : IntKind.i64.wrap (n1 : Int) = n1 := wrap_in (by omega) (by omega)
 have hcf := fun W => hkconfig_any s hs 32 n1 (by omega) (by omega) W
 have hpk := fun W => hkpick_any sl 4 W h1 (by decide) (by decide)
 have hpm := fun W => hkpick_any mo 6 W h4 (by decide) (by decide)
 rw [enk] at hpm
 obtain ⟨W0, hW0⟩ : ∃ W0, W0 = w.alloc (.cells #[.int .i64 s.l, .int .i64 s.h, .int .i64 s.p, .int .i64 s.v, .int .i64 s.s] 23) := ⟨_, rfl⟩
 have hb0 : Below w.heap.size w W0 := by rw [hW0]; exact (Below.refl _ _).alloc (Nat.le_refl _) _
 have hn0 : W0.heap[w.heap.size]? = some (.cells #[.int .i64 s.l, .int .i64 s.h, .int .i64 s.p, .int .i64 s.v, .int .i64 s.s] 23 (0, 0)) := by rw [hW0]; exact alloc_new _ _
 have hs0 : W0.heap.size = w.heap.size + 1 := by rw [hW0]; simp
 obtain ⟨x0, x1, x2, x3, x4⟩ := shape_cells hn0
 have Hcf := hide hcf
 have Hpk := hide hpk
 have Hpm := hide hpm
 have Hw1 := hide w1
 have HW0 := hide hW0
 have Hn0 := hide hn0
 have Hb0 := hide hb0
 have Hs0 := hide hs0
 have hne0 : w.heap.size ≠ W0.heap.size := by omega
 have Hne := hide hne0
 clear hcf hpk hpm w1 hW0 hn0 hb0 hs0 hne0
 obtain ⟨c, ec⟩ : ∃ c, c = kcfg s 32 n1 := ⟨_, rfl⟩
 rw [← ec] at Hcf
 have Hec := hide ec
 have HR := hide hR
 have HC := hide hC
 have HRf := hide hRf
 have HCf := hide hCf
 clear ec hR hC hRf hCf
 go_enter Try.func3, Try.ntmps3
 go_wp2
 rw [← HW0.out]
 go_cut [11] from 28 (fun v W => ∃ bc, v = .pointer (some ⟨bc, 0, none⟩) ∧ W0.heap.size ≤ bc ∧ W.heap[bc]? = some (.cells #[.int .i64 c.blocks, .int .i64 c.slots, .int .i64 c.layers, .int .i64 c.heads, .int .i64 c.pairs, .int .i64 c.vocab, .int .i64 c.seed] 26 (0, 0)) ∧ Below W0.heap.size W0 W)
 case first =>
   go_region_held3 (fun w' => w'.cell? ⟨w.heap.size, 0, none⟩ = some (.int .i64 s.l) ∧ w'.cell? ⟨w.heap.size, 1, none⟩ = some (.int .i64 s.h) ∧ w'.cell? ⟨w.heap.size, 2, none⟩ = some (.int .i64 s.p) ∧ w'.cell? ⟨w.heap.size, 3, none⟩ = some (.int .i64 s.v) ∧ w'.cell? ⟨w.heap.size, 4, none⟩ = some (.int .i64 s.s)) (first | go_keep | (exact ⟨(far7 Hne.out 0 _ _ _ _ _ _ _).trans z0, (far7 Hne.out 1 _ _ _ _ _ _ _).trans z1, (far7 Hne.out 2 _ _ _ _ _ _ _).trans z2, (far7 Hne.out 3 _ _ _ _ _ _ _).trans z3, (far7 Hne.out 4 _ _ _ _ _ _ _).trans z4⟩)) (first
     | (go_at_call 10; refine Calls_use (Hpk.out _) ?_)
     | (go_at_call 9; rw [Hw1.out]; refine (Hcf.out _).mono ?_; rintro e w1 ⟨rfl, hb1⟩; (first | (have hx1 := (hb1.block w.heap.size (lt_blk Hn0.out)).trans Hn0.out; have hB1 : Below W0.heap.size W0 w1 := below_of_drewN (k := 1) hb1) | (have hx1 := (hb1.block w.heap.size (Nat.lt_of_lt_of_le (lt_blk Hn0.out) (by simp))).trans ((((Below.refl _ _).alloc (Nat.le_refl _) _).block _ (lt_blk Hn0.out)).trans Hn0.out); have hy := (hb1.block W0.heap.size (by simp)).trans (alloc_new W0 _); obtain ⟨y0, y1, y2, y3, y4, y5, y6⟩ := cfg_cells hy; have f0 := frozen_blk hy 0; have f1 := frozen_blk hy 1; have f2 := frozen_blk hy 2; have f3 := frozen_blk hy 3; have f4 := frozen_blk hy 4; have f5 := frozen_blk hy 5; have f6 := frozen_blk hy 6; have Hy := hide hy; clear hy; have hB1 : Below W0.heap.size W0 w1 := (((Below.refl W0.heap.size W0).alloc (Nat.le_refl _) _).drew).trans (hb1.mono (by simp)))); obtain ⟨z0, z1, z2, z3, z4⟩ := shape_cells hx1; have HB1 := hide hB1; have Hx1 := hide hx1; clear hb1 hx1 hB1))
   all_goals go_wp2
   all_goals go_meet
   case rel => exact ⟨_, rfl, HB1.out.size, alloc_new w1 _, (HB1.out.alloc HB1.out.size _)⟩
   case rel => exact ⟨_, rfl, Nat.le_refl _, set7_blk Hy.out _ _ _ _ _ _ _, set7_below HB1.out (Nat.le_refl _) _ _ _ _ _ _ _⟩
   case rel => exact ⟨_, rfl, Nat.le_refl _, set7_blk Hy.out _ _ _ _ _ _ _, set7_below HB1.out (Nat.le_refl _) _ _ _ _ _ _ _⟩
 case rest =>
   obtain ⟨bc, rfl, hbc, hcb, hBc⟩ := hcut
   obtain ⟨W2, hw2⟩ : ∃ W2, W2 = wc := ⟨_, rfl⟩
   subst hw2
   have hcok : c.ok := by rw [Hec.out]; exact kcfg_ok hs (by omega) (by omega)
   have hho := fun W => hkhoarded_any c hcok W
   unfold cfgV at hho
   obtain ⟨c0, c1, c2, c3, c4, c5, c6⟩ := cfg_cells hcb
   obtain ⟨v1, v2⟩ := hcok.vocab
   have h32 : c.blocks = 32 := by rw [Hec.out]; rfl
   have H32 := hide h32
   have Hcok := hide hcok
   have Hho := hide hho
   have Hcb2 := hide hcb
   have HBc := hide hBc
   have hbw : Below w.heap.size w W2 := Hb0.out.trans (HBc.out.mono Hb0.out.size)
   have Hbw := hide hbw
   clear hho hcb hBc x0 x1 x2 x3 x4 hbw hcok h32
   go_upto_region 4 with (first
     | (go_at_call 11; refine (Hho.out W2).mono ?_; rintro e w5 ⟨p, rfl, hp, epc, epL, epI, hb5⟩; obtain ⟨c0, c1, c2, c3, c4, c5, c6⟩ := cfg_cells ((hb5.block bc (lt_blk Hcb2.out)).trans Hcb2.out); have Hp := hide hp; have Hb5 := hide hb5; have Hepc := hide epc; have HepL := hide epL; clear hp hb5 epc epL epI)
     | (go_at_call 11; refine (Hho.out w5).mono ?_; clear Hho; rintro e w6 ⟨q, rfl, hq, eqc, eqL, eqI, hb6⟩; have Hq := hide hq; have Hb6 := hide hb6; have Heqc := hide eqc; have HeqL := hide eqL; clear hq hb6 eqc eqL eqI))
   have HT0 : Hid (DuoK W2.heap.size W2 w6 p.g.X q.g.X c p q none none) := ⟨Hp.out.below Hb6.out, Hq.out.low Hb5.out.size, fun k hk hk' => (by have h1 := (Hp.out.lo k hk).2; have h2 := (Hq.out.lo k hk').1; omega), Hb5.out.trans (Hb6.out.mono Hb5.out.size), rfl, rfl, Hepc.out, Heqc.out, Nat.le_refl _, H32.out, HepL.out, HeqL.out⟩
   clear Hp Hq Hb5 Hb6 Hepc HepL Heqc HeqL c0 c1 c2 c3 c4 c5 c6
   have htk := hktokens_any nr c.vocab 14 vr fr w6 (HR.out.below (Hbw.out.trans (HT0.out.bel.mono Hbw.out.size))) (by omega) (by decide) HRf.out
   have Htk := hide htk
   obtain ⟨c0, c1, c2, c3, c4, c5, c6⟩ := cfg_cells ((HT0.out.bel.block bc (lt_blk Hcb2.out)).trans Hcb2.out)
   clear htk HR HRf c0 c1 c2 c3 c4 c6
   generalize hp0 : min nr 14 = n0 at Htk
   have hn14 : n0 ≤ 14 := by omega
   have Hp0 := hide hp0
   clear hp0
   go_upto_region 7 with (first
     | (go_at_call 12; refine Htk.out.mono ?_; clear Htk; rintro e w7 ⟨r7, rfl, ho7, hb7⟩; have Hb7 := hide hb7; clear hb7)
     | (at_builtin; refine wpList_append_own _ rfl _ _ 24 rfl w6.heap.size 3 i0 (.int .i64 0) 1 8 Try.underlying24 hi hz0 hz1 hz2 rfl (by decide) r7 n0 _ rfl (ho7.alloc _) ⟨w7.heap.size, 0, none⟩ 1 1 [.int .i64 1] rfl rfl (one_new w7 _ _) (one_int _) (by unfold maxLen; omega) (by omega) (by simp; have := Hb7.out.size; omega) ?_; intro v8 w8 hown8 hgrow8 _))
   have hb8 : Below w6.heap.size w6 w8 := (Hb7.out.alloc Hb7.out.size _).grown hgrow8 (by simp; have := Hb7.out.size; omega) (fun g hg => (ho7.lt g hg).1)
   obtain ⟨F, hF, hFt⟩ : ∃ F : Nat → Int, w8.ownsRow w6.heap.size 3 1 v8 (n0 + 1) ((List.range (n0 + 1)).map fun j => .int .i64 (F j)) ∧ ∀ j, j < n0 + 1 → ¬ badTok c.vocab (F j) := by
     refine ⟨fun j => if j = n0 then 1 else pickI (fr j) c.vocab, ?_, fun j _ => ?_⟩
     · have e : ((List.range (n0 + 1)).map fun j => Value.int .i64 (if j = n0 then 1 else pickI (fr j) c.vocab)) = ((List.range n0).map fun j => Value.int .i64 (pickI (fr j) c.vocab)) ++ [.int .i64 1] := by
         rw [List.range_succ, List.map_append]
         congr 1
         · exact List.map_congr_left (fun j hj => by rw [if_neg (by have := List.mem_range.1 hj; omega)])
         · simp
       rw [e]
       exact hown8
     · by_cases e : j = n0
       · simp only [if_pos e]; unfold badTok; omega
       · simp only [if_neg e]; exact pick_tok (by omega)
   obtain ⟨bt, ct, et, _, hbt⟩ := hF.form (by omega)
   subst et
   obtain ⟨_, hct1, hct2⟩ : True ∧ n0 + 1 ≤ ct ∧ ct ≤ maxLen := by
     obtain ⟨_, ⟨q1, _⟩ | ⟨g, cap, cur, q1, _, _, q2, q3, _⟩⟩ := hF
     · cases q1
     · cases q1; exact ⟨trivial, q2, q3⟩
   unfold maxLen at hct2
   have hI8 := IntsT.of_owns hF
   obtain ⟨nt, hnt⟩ : ∃ nt, nt = n0 + 1 := ⟨_, rfl⟩
   rw [← hnt] at hI8 hFt hct1
   have hnt15 : 1 ≤ nt ∧ nt ≤ 15 := by omega
   have HT8 := hide (HT0.out.below hb8)
   have HI8 := hide hI8
   have HFt := hide hFt
   clear hown8 hgrow8 ho7 Hb7 hb8 hF hI8 hFt HT0 c5 hn14 Hp0 hbt
   generalize n0 + 1 = nt' at *
   subst hnt
   have hcx := duo_create HT8.out HI8.out.ints hnt15.1 (by omega) HFt.out
   have Hcx := hide hcx
   clear hcx
   go_upto_region 9 with (first
     | (go_at_call 13; refine Hcx.out.mono ?_; clear Hcx; rintro e w9 ⟨rfl, hk9, p9, hT9⟩; have HT9 := hide hT9; have HI9 := hide (HI8.out.keep hk9); clear hk9 hT9)
     | (go_at_call 13; refine (duo_create HT9.out.flip (HI9.out.sub 0 1 (by omega)).ints (Nat.le_refl _) (by omega) (fun j hj => HFt.out _ (by omega))).mono ?_; rintro e w10 ⟨rfl, hk10, q10, hT10⟩; have HT10 := hide hT10.flip; have HI10 := hide (HI9.out.keep hk10); clear hk10 hT10))
   have HT11 : Hid (DuoK W2.heap.size W2 w10 p.g.X q.g.X c p9 q10 (some (natsOf nt F)) (some (natsOf 1 F))) := by
     have h' := HT10.out
     simp only [Nat.zero_add] at h'
     exact h'
   clear HT10 HT9 HI9 HI8 HT8
   go_wp2
   go_loopw [16, 17, 18] (fun e a i wr => ∃ (ii at1 : Nat) (q' : HD), ii ≤ nc ∧ 1 ≤ at1 ∧ at1 ≤ nt ∧ e = .int .i64 0 ∧ a = .int .i64 at1 ∧ i = .int .i64 ii ∧ Hid (DuoK W2.heap.size W2 wr p.g.X q.g.X c p9 q' (some (natsOf nt F)) (some (natsOf at1 F))) ∧ Hid (IntsT wr (.slice (some ⟨bt, 0, none⟩) nt ct) nt F)) (fun _ _ i _ => nc - (intOf i).toNat)
   case atStart => exact ⟨0, 1, q10, Nat.zero_le _, Nat.le_refl _, hnt15.1, rfl, rfl, rfl, HT11.out, HI10.out⟩
   case round =>
     obtain ⟨ii, at1, Q1, hii, hat1, hatn, rfl, rfl, rfl, HT, HI⟩ := hrel
     go_upto_region 11 with fail
     go_cut [69] from 56 to 97 (fun v W => v = .bool (decide (ii < nc ∧ at1 < nt)) ∧ W = wr)
     case first =>
       by_cases g1 : ii < nc
       · by_cases g2 : at1 < nt
         · go_wp2
           go_meet
           case rel => exact ⟨by simp [g1, g2], rfl⟩
         · go_wp2
           go_meet
           case rel => exact ⟨by simp [g2], rfl⟩
       · go_wp2
         go_meet
         case rel => exact ⟨by simp [g1], rfl⟩
     case rest =>
       obtain ⟨rfl, rfl⟩ := hcut
       obtain ⟨wr, hwr⟩ : ∃ wr, wr = wc := ⟨_, rfl⟩
       subst hwr
       by_cases hgo : ii < nc ∧ at1 < nt
       · have hdec : decide (ii < nc ∧ at1 < nt) = true := decide_eq_true hgo
         rw [hdec]
         obtain ⟨be, oe, ee, hbe, hce⟩ := Hc3.out (by omega)
         subst ee
         have hfx := hce ii hgo.1
         have hkf := HCf.out ii hgo.1
         generalize fc ii = fx at hfx hkf
         have hfx1 := ((HT.out.bel.cell (p := ⟨be, oe + ii, none⟩) (Nat.lt_of_lt_of_le hbe Hbw.out.size)).trans (Hbw.out.cell (p := ⟨be, oe + ii, none⟩) hbe)).trans hfx
         have p4 := kpick_lt (c := fx) (n := 4) (by decide)
         obtain ⟨k4, ek4⟩ : ∃ k4 : Nat, pickI fx 4 = k4 := ⟨(pickI fx 4).toNat, by omega⟩
         have hp4 := fun W => hkpick_any fx 4 W hkf (by decide) (by decide)
         rw [ek4] at hp4 p4
         have Hp4 := hide hp4
         have hap : ∀ m, at1 + m ≤ nt → Calls Try.prog 14 #[.pointer (some ⟨q.g.X, 0, none⟩), .int .i64 0, .slice (some ⟨bt, at1, none⟩) m (ct - at1)] wr fun e w' => e = .returned (.int .i64 0) ∧ KeepT 3 wr w' ∧ ∃ q', DuoK W2.heap.size W2 w' p.g.X q.g.X c p9 q' (some (natsOf nt F)) (some (natsOf (at1 + m) F)) := fun m hm => by
           have h1 := (HI.out.sub at1 m hm).ints
           rw [Nat.zero_add] at h1
           refine (duo_append HT.out.flip h1 (by rw [natsOf_len]; omega) (fun j hj => HFt.out _ (by omega))).mono ?_
           rintro e w' ⟨rfl, hk, q', hd⟩
           rw [natsOf_cut] at hd
           exact ⟨rfl, hk, q', hd.flip⟩
         have Hap := hide hap
         have Hce := hide hce
         have Hfx := hide hfx
         clear hp4 hap hce hfx ek4 hdec
         by_cases hover : nt < at1 + k4
         · have hapx := Hap.out (nt - at1) (by omega)
           have Hapx := hide hapx
           clear hapx
           go_wp2_with (first
             | (go_at_call 10; refine Calls_use (Hp4.out _) ?_; clear Hp4)
             | (go_at_call 14; refine Hapx.out.mono ?_; clear Hapx; rintro e w12 ⟨rfl, hk12, q12, hT12⟩; have HT12 := hide hT12; have HI12 := hide (HI.out.keep hk12); clear hk12 hT12))
           exact ⟨⟨ii + 1, at1 + (nt - at1), q12, by omega, by omega, by omega, rfl, by go_num, by go_num, HT12.out, HI12.out⟩, by simp [intOf]; omega⟩
         · have hapx := Hap.out k4 (by omega)
           have Hapx := hide hapx
           clear hapx
           go_wp2_with (first
             | (go_at_call 10; refine Calls_use (Hp4.out _) ?_; clear Hp4)
             | (go_at_call 14; refine Hapx.out.mono ?_; clear Hapx; rintro e w12 ⟨rfl, hk12, q12, hT12⟩; have HT12 := hide hT12; have HI12 := hide (HI.out.keep hk12); clear hk12 hT12))
           exact ⟨⟨ii + 1, at1 + k4, q12, by omega, by omega, by omega, rfl, by go_num, by go_num, HT12.out, HI12.out⟩, by simp [intOf]; omega⟩
       · have hdec : decide (ii < nc ∧ at1 < nt) = false := decide_eq_false hgo
         rw [hdec]
         have hapx : Calls Try.prog 14 #[.pointer (some ⟨q.g.X, 0, none⟩), .int .i64 0, .slice (if ct = at1 then some ⟨bt, 0, none⟩ else some ⟨bt, at1, none⟩) (nt - at1) (ct - at1)] wr fun e w' => e = .returned (.int .i64 0) ∧ ∃ q', DuoK W2.heap.size W2 w' p.g.X q.g.X c p9 q' (some (natsOf nt F)) (some (natsOf nt F)) := by
           have h1 : Ints wr (.slice (if ct = at1 then some ⟨bt, 0, none⟩ else some ⟨bt, at1, none⟩) (nt - at1) (ct - at1)) (nt - at1) (fun j => F (at1 + j)) := by
             by_cases e : ct = at1
             · rw [if_pos e]
               exact ⟨_, _, rfl, by omega, by unfold maxLen; omega, fun h => by omega⟩
             · rw [if_neg e]
               have h1 := (HI.out.sub at1 (nt - at1) (by omega)).ints
               rw [Nat.zero_add] at h1
               exact h1
           refine (duo_append HT.out.flip h1 (by rw [natsOf_len]; omega) (fun j hj => HFt.out _ (by omega))).mono ?_
           rintro e w' ⟨rfl, _, q', hd⟩
           rw [natsOf_cut, Nat.add_sub_cancel' hatn] at hd
           exact ⟨rfl, q', hd.flip⟩
         have Hapx := hide hapx
         clear hapx hdec hgo
         have hTl : (natsOf nt F).length = nt := natsOf_len _ _
         generalize natsOf nt F = T at Hapx hTl
         have HTl := hide hTl
         clear HT HI HFt hTl c0 c1 c2 c3 c4 c5 c6
         go_upto_region 22 with (first
           | (go_at_call 10; refine Calls_use (Hpm.out _) ?_; clear Hpm)
           | (go_at_call 14; refine Hapx.out.mono ?_; clear Hapx; generalize (if ct = at1 then (some (⟨bt, 0, none⟩ : Addr)) else some ⟨bt, at1, none⟩) = ax; rintro e w12 ⟨rfl, q12, hT12⟩; have HT12 := hide hT12; clear hT12)
           | (go_at_call 15; refine (duo_decode HT12.out nk (by rw [HTl.out]; omega)).mono ?_; rintro e w13 ⟨vl, rfl, hl13, _, p13, hT13⟩; have HT13 := hide hT13; have HL13 := hide hl13; obtain ⟨al, cl, rfl, hcl1, hcl2, _⟩ := hl13; clear hT13 HT12))
         unfold maxLen at hcl2
         go_wp2
         go_loopw [23] (fun i wr => ∃ (ii : Nat) (q' : HD), ii ≤ nk ∧ i = .int .i64 ii ∧ Hid (DuoK W2.heap.size W2 wr p.g.X q.g.X c p13 q' (some (goTo c T nk)) (some (goTo c T ii))) ∧ Hid (IntsT wr (.slice al nk cl) nk (fun j => tkI (goTo c T nk) (T.length + j)))) (fun i _ => nk - (intOf i).toNat)
         case atStart => exact ⟨0, q12, Nat.zero_le _, rfl, HT13.out, HL13.out⟩
         case round =>
           obtain ⟨ii, Q2, hii2, rfl, HT, HL⟩ := hrel
           obtain ⟨c0, c1, c2, c3, c4, c5, c6⟩ := cfg_cells ((HT.out.bel.block bc (lt_blk Hcb2.out)).trans Hcb2.out)
           clear c0 c1 c3 c4 c6
           by_cases hlt : ii < nk
           · have hlg := duo_logits HT.out.flip
             have Hlg := hide hlg
             clear hlg
             go_upto_region 28 with (first
               | (go_at_call 16; refine Hlg.out.mono ?_; clear Hlg; rintro e w14 ⟨r14, rfl, hr14, hb14⟩; have HT14 := hide (HT.out.below hb14); have HL14 := hide (HL.out.bel hb14); have HR14 := hide hr14; clear hr14 hb14))
             have hnx := goTo_at c T hlt
             have hbest := next_best c (goTo c T ii)
             simp only [] at hbest
             have hnxv := nextOf_lt c Hcok.out (xIn c (tkN (goTo c T ii)) ((goTo c T ii).length - 1) c.layers)
             have hgs := goTo_step c T ii
             generalize nextOf c (xIn c (tkN (goTo c T ii)) ((goTo c T ii).length - 1) c.layers) = nx at hnx hbest hnxv hgs
             obtain ⟨am, cm, em, hm1, hm2, hm3⟩ := id HR14.out
             subst em
             obtain ⟨bm, om, curm, frm, em, hbm, hmc⟩ := hm3 (by omega)
             subst em
             obtain ⟨al', cl', el', _, _, hl3⟩ := id HL14.out
             obtain ⟨rfl, rfl⟩ : al = al' ∧ cl = cl' := by injection el' with e1 _ e2; exact ⟨e1, e2⟩
             obtain ⟨bl, ol, curl, frl, el, hbl, hlc⟩ := hl3 (by omega)
             subst el
             unfold maxLen at hm2
             have hcellL : w14.cell? ⟨bl, ol + ii, none⟩ = some (.int .i64 nx) := by rw [cell_blk hbl, hlc ii hlt]; simp only []; rw [hnx]
             have hcellM : ∀ j, j < c.vocab → w14.cell? ⟨bm, om + j, none⟩ = some (.int .i64 (lgO c (some (goTo c T ii)) j)) := fun j hj => by rw [cell_blk hbm, hmc j hj]
             have hlbl := lt_blk hbl
             have hlbm := lt_blk hbm
             obtain ⟨c0, c1, c2, c3, c4, c5', c6⟩ := cfg_cells ((HT14.out.bel.block bc (lt_blk Hcb2.out)).trans Hcb2.out)
             have HcellL := hide hcellL
             have HcellM := hide hcellM
             have Hnx := hide hnx
             have Hgs := hide hgs
             have Hbest := hide hbest
             have Hml := hide (And.intro hlbl hlbm)
             clear hbm hmc hm3 hbl hlc hl3 el' hcellM hnx hgs hbest c0 c1 c2 c3 c4 c6 hlbl hlbm
             go_cut [163] from 129 to 212 (fun v W => v = .bool false ∧ ∃ n, W = w14.drewN n)
             case first =>
               have e1 : ((c.vocab : Int) != c.vocab) = false := by simp
               have e2 : decide ((nx : Int) < 0) = false := decide_eq_false (by omega)
               have e3 : decide ((nx : Int) ≥ c.vocab) = false := decide_eq_false (by omega)
               go_quiet (fail)
               go_wp2
               go_meet
               case rel => exact ⟨by rw [decide_eq_false (by omega)], _, rfl⟩
             case rest =>
               obtain ⟨rfl, n15, ew15⟩ := hcut
               obtain ⟨W15, hw15⟩ : ∃ W15, W15 = wc := ⟨_, rfl⟩
               subst hw15
               have hb15 : Below w14.heap.size w14 W15 := by rw [ew15]; exact below_drewN (Below.refl _ _) _
               have HT15 := hide (HT14.out.below hb15)
               have HL15 := hide (HL14.out.bel hb15)
               have HcL := hide ((hb15.cell (p := ⟨bl, ol + ii, none⟩) Hml.out.1).trans HcellL.out)
               have HcM := hide (fun j hj => (hb15.cell (p := ⟨bm, om + j, none⟩) Hml.out.2).trans (HcellM.out j hj))
               have Hlt15 := hide (And.intro (Nat.lt_of_lt_of_le Hml.out.1 hb15.size) (Nat.lt_of_lt_of_le Hml.out.2 hb15.size))
               clear hb15 ew15 HcellL HcellM HT14 HL14 HR14 c5' hcellL
               go_wp2
               go_loopw [26] (fun i wr => ∃ jj : Nat, jj ≤ c.vocab ∧ i = .int .i64 jj ∧ Hid (Below W15.heap.size W15 wr)) (fun i _ => c.vocab - (intOf i).toNat)
               case atStart => exact ⟨0, Nat.zero_le _, rfl, Below.refl _ _⟩
               case round =>
                 obtain ⟨jj, hjj, rfl, HB⟩ := hrel
                 by_cases hjl : jj < c.vocab
                 · have d1 := (HB.out.cell (p := ⟨bl, ol + ii, none⟩) Hlt15.out.1).trans HcL.out
                   have d2 := (HB.out.cell (p := ⟨bm, om + jj, none⟩) Hlt15.out.2).trans (HcM.out jj hjl)
                   have d3 := (HB.out.cell (p := ⟨bm, om + nx, none⟩) Hlt15.out.2).trans (HcM.out nx hnxv)
                   obtain ⟨b1, b2⟩ := Hbest.out jj hjl
                   generalize lgO c (some (goTo c T ii)) jj = gj at d2 b1 b2
                   generalize lgO c (some (goTo c T ii)) nx = gn at d3 b1 b2
                   go_upto_region 33 with fail
                   go_cut [203] from 164 to 203 (fun v W => v = .bool false ∧ ∃ n, W = wr.drewN n)
                   case first =>
                     have e1 : decide (gj > gn) = false := decide_eq_false (by omega)
                     by_cases hq : gj = gn
                     · have e2 : (gj == gn) = true := by simp [hq]
                       have e3 : decide ((jj : Int) < nx) = false := decide_eq_false (fun h => b2 ⟨hq, by omega⟩)
                       have hjn := hide (fun h : jj < nx => b2 ⟨hq, h⟩)
                       clear hq b1 b2
                       go_quiet (fail)
                       go_wp2
                       go_meet
                       case rel => exact ⟨by rw [decide_eq_false hjn.out], _, rfl⟩
                     · have e2 : (gj == gn) = false := by simp [hq]
                       have Hq := hide hq
                       clear hq b1 b2
                       go_quiet (fail)
                       go_wp2
                       go_meet
                       case rel => exact ⟨rfl, _, rfl⟩
                   case rest =>
                     obtain ⟨rfl, n16, rfl⟩ := hcut
                     go_wp2
                     exact ⟨⟨jj + 1, by omega, by go_num, below_drewN HB.out n16⟩, by simp [intOf]; omega⟩
                 · have hap : Calls Try.prog 14 #[.pointer (some ⟨q.g.X, 0, none⟩), .int .i64 0, .slice (some ⟨bl, ol + ii, none⟩) 1 (cl - ii)] wr fun e w' => e = .returned (.int .i64 0) ∧ KeepT 3 wr w' ∧ ∃ q', DuoK W2.heap.size W2 w' p.g.X q.g.X c p13 q' (some (goTo c T nk)) (some (goTo c T (ii + 1))) := by
                     have h1 := ((HL15.out.bel HB.out).sub ii 1 (by omega)).ints
                     refine (duo_append (HT15.out.below HB.out).flip h1 (by rw [goTo_len, HTl.out]; omega) (fun j hj => ?_)).mono ?_
                     · obtain rfl : j = 0 := by omega
                       simp only [Nat.add_zero]
                       rw [Hnx.out]
                       unfold badTok
                       omega
                     · rintro e w' ⟨rfl, hk, q', hd⟩
                       have e1 : natsOf 1 (fun j => tkI (goTo c T nk) (T.length + (ii + j))) = [nx] := by
                         unfold natsOf
                         simp [Hnx.out]
                       rw [e1, ← Hgs.out] at hd
                       exact ⟨rfl, hk, q', hd.flip⟩
                   have Hap := hide hap
                   clear hap
                   go_wp2_with (go_at_call 14; refine Hap.out.mono ?_; clear Hap; rintro e w17 ⟨rfl, hk17, q17, hT17⟩; have HT17 := hide hT17; have HL17 := hide ((HL15.out.bel HB.out).keep hk17); clear hk17 hT17)
                   exact ⟨⟨ii + 1, q17, by omega, by go_num, HT17.out, HL17.out⟩, by simp [intOf]; omega⟩
           · have hie : ii = nk := by omega
             subst hie
             have hal := duo_alike HT.out
             have Hal := hide hal
             clear hal
             go_wp2_with (go_at_call 17; refine Hal.out.mono ?_; clear Hal; rintro e w15 ⟨rfl, hb15⟩)
             go_ret
             exact ⟨rfl, Hbw.out.trans ((HT.out.below hb15).bel.mono Hbw.out.size)⟩
end Go.Proofs.Ytlmflighkkgikaa
