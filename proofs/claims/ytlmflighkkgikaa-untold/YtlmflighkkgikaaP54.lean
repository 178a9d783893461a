import Derived.Deep.CutRange
import Derived.Test.YtlmflighkkgikaaP25
import Derived.Test.YtlmflighkkgikaaP51
import Derived.Test.YtlmflighkkgikaaP52

namespace Go.Proofs.Ytlmflighkkgikaa
open Go.RowKit
attribute [local go_sem ↓] Go.wp_at_zero Go.wp_at_succ
set_option maxRecDepth 100000 in
set_option maxHeartbeats 8000000 in
theorem untold_any (s : ShapeD) (hs : s.ok) (on1 tw few : Int) (h1 : kI on1) (h2 : kI tw) (h3 : kI few) (aa : Option Addr) (na ca : Nat) (act : Nat → ActD) (ve : Value) (ne : Nat) (fe : Nat → Int) (w : World) (hA : ActsI w aa na ca act) (hE : Ints w ve ne fe) (hEf : ∀ j, j < ne → kI (fe j)) :
   Calls Try.prog 8 #[.agg #[.int .i64 s.l, .int .i64 s.h, .int .i64 s.p, .int .i64 s.v, .int .i64 s.s], .int .i64 on1, .int .i64 tw, .int .i64 few, .slice aa na ca, ve] w fun e w' => e = .returned (.bool true) ∧ Below w.heap.size w w' := by
 obtain ⟨ae, ce, eve, he1, he2, he3⟩ := id hE
 subst eve
 have He3 := hide he3
 clear he3
 have p1 := kpick_lt (c := on1) (n := 4) (by decide)
 have p2 := kpick_lt (c := tw) (n := 4) (by decide)
 have p3 := kpick_lt (c := few) (n := 13) (by decide)
 obtain ⟨n1, en1⟩ : ∃ n1 : Nat, 1 + pickI on1 4 = n1 := ⟨(1 + pickI on1 4).toNat, by omega⟩
 obtain ⟨n2, en2⟩ : ∃ n2 : Nat, 1 + pickI tw 4 = n2 := ⟨(1 + pickI tw 4).toNat, by omega⟩
 obtain ⟨n3, en3⟩ : ∃ n3 : Nat, 20 + pickI few 13 = n3 := ⟨(20 + pickI few 13).toNat, by omega⟩
 have w1 : IntKind.i64.wrap (n1 : Int) = n1 := wrap_in (by omega) (by omega)
 have w2 : IntKind.i64.wrap (n2 : Int) = n2 := wrap_in (by omega) (by omega)
 have w3 : IntKind.i64.wrap (n3 : Int) = n3 := wrap_in (by omega) (by omega)
 have hcf := fun W => hkconfig_any s hs 32 n1 (by omega) (by omega) W
 have hcg := fun W => hkconfig_any s hs n3 n2 (by omega) (by omega) W
 have hpk := fun W => hkpick_any on1 4 W h1 (by decide) (by decide)
 have hpk2 := fun W => hkpick_any tw 4 W h2 (by decide) (by decide)
 have hpk3 := fun W => hkpick_any few 13 W h3 (by decide) (by decide)
 obtain ⟨W0, hW0⟩ : ∃ W0, W0 = w.alloc (.cells #[.int .i64 s.l, .int .i64 s.h, .int .i64 s.p, .int .i64 s.v, .int .i64 s.s] 23) := ⟨_, rfl⟩
 have hb0 : Below w.heap.size w W0 := by rw [hW0]; exact (Below.refl _ _).alloc (Nat.le_refl _) _
 have hn0 : W0.heap[w.heap.size]? = some (.cells #[.int .i64 s.l, .int .i64 s.h, .int .i64 s.p, .int .i64 s.v, .int .i64 s.s] 23 (0, 0)) := by rw [hW0]; exact alloc_new _ _
 have hs0 : W0.heap.size = w.heap.size + 1 := by rw [hW0]; simp
 obtain ⟨x0, x1, x2, x3, x4⟩ := shape_cells hn0
 have Hcf := hide hcf
 have Hcg := hide hcg
 have Hpk := hide hpk
 have hpk23 : ∀ (x : Int) (n : Int) (W : World), (x = few ∧ n = 13) ∨ (x = tw ∧ n = 4) → Calls Try.prog 10 #[.int .i64 x, .int .i64 n] W fun e w' => e = .returned (.int .i64 (pickI x n)) ∧ w' = W := fun x n W hx => by
   rcases hx with ⟨rfl, rfl⟩ | ⟨rfl, rfl⟩
   · exact hpk3 W
   · exact hpk2 W
 have Hpk23 := hide hpk23
 clear hpk23
 have Hw1 := hide w1
 have Hw2 := hide w2
 have Hw3 := hide w3
 have HW0 := hide hW0
 have Hn0 := hide hn0
 have Hb0 := hide hb0
 have Hs0 := hide hs0
 have hne0 : w.heap.size ≠ W0.heap.size := by omega
 have Hne := hide hne0
 clear hcf hcg hpk hpk2 hpk3 w1 w2 w3 hW0 hn0 hb0 hs0 hne0
 obtain ⟨c, ec⟩ : ∃ c, c = kcfg s 32 n1 := ⟨_, rfl⟩
 obtain ⟨d, ed⟩ : ∃ d, d = kcfg s n3 n2 := ⟨_, rfl⟩
 rw [← ec] at Hcf
 rw [← ed] at Hcg
 have Hec := hide ec
 have Hed := hide ed
 clear ec ed
 go_enter Try.func8, Try.ntmps8
 go_wp2
 rw [← HW0.out]
 go_cut [13] from 25 (fun v W => ∃ bc, v = .pointer (some ⟨bc, 0, none⟩) ∧ W0.heap.size ≤ bc ∧ W.heap[bc]? = some (.cells #[.int .i64 c.blocks, .int .i64 c.slots, .int .i64 c.layers, .int .i64 c.heads, .int .i64 c.pairs, .int .i64 c.vocab, .int .i64 c.seed] 26 (0, 0)) ∧ Below W0.heap.size W0 W)
 case first =>
   go_region_held3 (fun w' => w'.cell? ⟨w.heap.size, 0, none⟩ = some (.int .i64 s.l) ∧ w'.cell? ⟨w.heap.size, 1, none⟩ = some (.int .i64 s.h) ∧ w'.cell? ⟨w.heap.size, 2, none⟩ = some (.int .i64 s.p) ∧ w'.cell? ⟨w.heap.size, 3, none⟩ = some (.int .i64 s.v) ∧ w'.cell? ⟨w.heap.size, 4, none⟩ = some (.int .i64 s.s)) (first | go_keep | (exact ⟨(far7 Hne.out 0 _ _ _ _ _ _ _).trans z0, (far7 Hne.out 1 _ _ _ _ _ _ _).trans z1, (far7 Hne.out 2 _ _ _ _ _ _ _).trans z2, (far7 Hne.out 3 _ _ _ _ _ _ _).trans z3, (far7 Hne.out 4 _ _ _ _ _ _ _).trans z4⟩)) (first
     | (go_at_call 10; refine Calls_use (Hpk.out _) ?_)
     | (go_at_call 9; rw [Hw1.out]; refine (Hcf.out _).mono ?_; rintro e w1 ⟨rfl, hb1⟩; (first | (have hx1 := (hb1.block w.heap.size (lt_blk Hn0.out)).trans Hn0.out; have hB1 : Below W0.heap.size W0 w1 := below_of_drewN (k := 1) hb1) | (have hx1 := (hb1.block w.heap.size (Nat.lt_of_lt_of_le (lt_blk Hn0.out) (by simp))).trans ((((Below.refl _ _).alloc (Nat.le_refl _) _).block _ (lt_blk Hn0.out)).trans Hn0.out); have hy := (hb1.block W0.heap.size (by simp)).trans (alloc_new W0 _); obtain ⟨y0, y1, y2, y3, y4, y5, y6⟩ := cfg_cells hy; have f0 := frozen_blk hy 0; have f1 := frozen_blk hy 1; have f2 := frozen_blk hy 2; have f3 := frozen_blk hy 3; have f4 := frozen_blk hy 4; have f5 := frozen_blk hy 5; have f6 := frozen_blk hy 6; have Hy := hide hy; clear hy; have hB1 : Below W0.heap.size W0 w1 := (((Below.refl W0.heap.size W0).alloc (Nat.le_refl _) _).drew).trans (hb1.mono (by simp)))); obtain ⟨z0, z1, z2, z3, z4⟩ := shape_cells hx1; have HB1 := hide hB1; have Hx1 := hide hx1; clear hb1 hx1 hB1))
   all_goals go_wp2
   all_goals go_meet
   case rel => exact ⟨_, rfl, HB1.out.size, alloc_new w1 _, (HB1.out.alloc HB1.out.size _)⟩
   case rel => exact ⟨_, rfl, Nat.le_refl _, set7_blk Hy.out _ _ _ _ _ _ _, set7_below HB1.out (Nat.le_refl _) _ _ _ _ _ _ _⟩
   case rel => exact ⟨_, rfl, Nat.le_refl _, set7_blk Hy.out _ _ _ _ _ _ _, set7_below HB1.out (Nat.le_refl _) _ _ _ _ _ _ _⟩
 case rest =>
   obtain ⟨W1, hw1⟩ : ∃ W1, W1 = wc := ⟨_, rfl⟩
   subst hw1
   obtain ⟨bc, rfl, hbc, hcb, hBc⟩ := hcut
   have hnc : W1.heap[w.heap.size]? = some (.cells #[.int .i64 s.l, .int .i64 s.h, .int .i64 s.p, .int .i64 s.v, .int .i64 s.s] 23 (0, 0)) := (hBc.block w.heap.size (lt_blk Hn0.out)).trans Hn0.out
   clear x0 x1 x2 x3 x4
   obtain ⟨x0, x1, x2, x3, x4⟩ := shape_cells hnc
   have hnec : w.heap.size ≠ W1.heap.size := by have := lt_blk hnc; omega
   have Hnc := hide hnc
   have Hnec := hide hnec
   have Hcb := hide hcb
   have HBc := hide hBc
   have Hbc := hide hbc
   clear hnc hnec hcb hBc hbc
   go_wp2
   go_cut [14] from 25 (fun v W => ∃ bd, v = .pointer (some ⟨bd, 0, none⟩) ∧ W1.heap.size ≤ bd ∧ W.heap[bd]? = some (.cells #[.int .i64 d.blocks, .int .i64 d.slots, .int .i64 d.layers, .int .i64 d.heads, .int .i64 d.pairs, .int .i64 d.vocab, .int .i64 d.seed] 26 (0, 0)) ∧ Below W1.heap.size W1 W)
   case first =>
     go_region_held3 (fun w' => w'.cell? ⟨w.heap.size, 0, none⟩ = some (.int .i64 s.l) ∧ w'.cell? ⟨w.heap.size, 1, none⟩ = some (.int .i64 s.h) ∧ w'.cell? ⟨w.heap.size, 2, none⟩ = some (.int .i64 s.p) ∧ w'.cell? ⟨w.heap.size, 3, none⟩ = some (.int .i64 s.v) ∧ w'.cell? ⟨w.heap.size, 4, none⟩ = some (.int .i64 s.s)) (first | go_keep | (exact ⟨(far7 Hnec.out 0 _ _ _ _ _ _ _).trans z0, (far7 Hnec.out 1 _ _ _ _ _ _ _).trans z1, (far7 Hnec.out 2 _ _ _ _ _ _ _).trans z2, (far7 Hnec.out 3 _ _ _ _ _ _ _).trans z3, (far7 Hnec.out 4 _ _ _ _ _ _ _).trans z4⟩)) (first
       | (go_at_call 10; refine Calls_use (Hpk23.out _ _ _ (by first | exact .inl ⟨rfl, rfl⟩ | exact .inr ⟨rfl, rfl⟩)) ?_)
       | (go_at_call 9; rw [Hw2.out, Hw3.out]; refine (Hcg.out _).mono ?_; rintro e w1 ⟨rfl, hb1⟩; (first | (have hx1 := (hb1.block w.heap.size (lt_blk Hnc.out)).trans Hnc.out; have hB1 : Below W1.heap.size W1 w1 := below_of_drewN (k := 1) hb1) | (have hx1 := (hb1.block w.heap.size (Nat.lt_of_lt_of_le (lt_blk Hnc.out) (by simp))).trans ((((Below.refl _ _).alloc (Nat.le_refl _) _).block _ (lt_blk Hnc.out)).trans Hnc.out); have hy := (hb1.block W1.heap.size (by simp)).trans (alloc_new W1 _); obtain ⟨y0, y1, y2, y3, y4, y5, y6⟩ := cfg_cells hy; have f0 := frozen_blk hy 0; have f1 := frozen_blk hy 1; have f2 := frozen_blk hy 2; have f3 := frozen_blk hy 3; have f4 := frozen_blk hy 4; have f5 := frozen_blk hy 5; have f6 := frozen_blk hy 6; have Hy := hide hy; clear hy; have hB1 : Below W1.heap.size W1 w1 := (((Below.refl W1.heap.size W1).alloc (Nat.le_refl _) _).drew).trans (hb1.mono (by simp)))); obtain ⟨z0, z1, z2, z3, z4⟩ := shape_cells hx1; have HB1 := hide hB1; have Hx1 := hide hx1; clear hb1 hx1 hB1))
     all_goals go_wp2
     all_goals go_meet
     all_goals first
       | exact ⟨_, rfl, HB1.out.size, alloc_new w1 _, (HB1.out.alloc HB1.out.size _)⟩
       | exact ⟨_, rfl, Nat.le_refl _, set7_blk Hy.out _ _ _ _ _ _ _, set7_below HB1.out (Nat.le_refl _) _ _ _ _ _ _ _⟩
   case rest =>
     obtain ⟨bd, rfl, hbd, hdb, hBd⟩ := hcut
     have hcb2 := (hBd.block bc (lt_blk Hcb.out)).trans Hcb.out
     obtain ⟨W2, hw2⟩ : ∃ W2, W2 = wc := ⟨_, rfl⟩
     subst hw2
     have hho := hkhoarded_any c (by rw [Hec.out]; exact kcfg_ok hs (by omega) (by omega)) W2
     have hhd := fun W => hkhoarded_any d (by rw [Hed.out]; exact kcfg_ok hs (by omega) (by omega)) W
     unfold cfgV at hho hhd
     obtain ⟨c0, c1, c2, c3, c4, c5, c6⟩ := cfg_cells hcb2
     have Hho := hide hho
     have Hhd := hide hhd
     have Hcb2 := hide hcb2
     have Hdb := hide hdb
     have HBd := hide hBd
     clear hho hhd hcb2 hdb hBd x0 x1 x2 x3 x4
     go_wp2_with (first
       | (go_at_call 11; refine Hho.out.mono ?_; clear Hho; rintro e w5 ⟨p, rfl, hp, epc, epL, epI, hb5⟩; have hdb5 := (hb5.block bd (lt_blk Hdb.out)).trans Hdb.out; obtain ⟨d0, d1, d2, d3, d4, d5, d6⟩ := cfg_cells hdb5; have Hp := hide hp; have Hb5 := hide hb5; have Hdb5 := hide hdb5; have Hepc := hide epc; have HepL := hide epL; have HepI := hide epI; clear hp hb5 hdb5 epc epL epI c0 c1 c2 c3 c4 c5 c6)
       | (go_at_call 11; refine (Hhd.out w5).mono ?_; clear Hhd; rintro e w6 ⟨q, rfl, hq, eqc, eqL, eqI, hb6⟩; have Hq := hide hq; have Hb6 := hide hb6; have Heqc := hide eqc; have HeqL := hide eqL; have HeqI := hide eqI; clear hq hb6 eqc eqL eqI d0 d1 d2 d3 d4 d5 d6))
     have hm : sameM c d := by rw [Hec.out, Hed.out]; exact ⟨rfl, rfl, rfl, rfl, rfl⟩
     have HT0 : Hid (TwoK W2.heap.size W2 w6 p.g.X q.g.X c d p q) := ⟨Hp.out.below Hb6.out, Hq.out.low Hb5.out.size, fun k hk hk' => (by have h1 := (Hp.out.lo k hk).2; have h2 := (Hq.out.lo k hk').1; omega), (by rw [HepL.out]; intro x hx; cases hx), (by rw [HeqL.out]; intro x hx; cases hx), (by rw [HepL.out, HeqL.out]; intro k; rfl), Hb5.out.trans (Hb6.out.mono Hb5.out.size), rfl, rfl, Hepc.out, Heqc.out, Nat.le_refl _⟩
     have hbw : Below w.heap.size w W2 := (Hb0.out.trans (HBc.out.mono Hb0.out.size)).trans (HBd.out.mono (Nat.le_trans Hb0.out.size HBc.out.size))
     have HA2 := hide (hA.below hbw)
     have HE2 := hide (hE.below hbw)
     have HEf := hide hEf
     have Hm := hide hm
     have Hbw := hide hbw
     clear hbw hm hA hE hEf Hp Hq Hb5 Hb6 Hepc HepL HepI Heqc HeqL HeqI Hdb5 Hdb
     go_loopw [17] (fun i wr => ∃ (kk : Nat) (p' q' : HD), kk ≤ na ∧ i = .int .i64 kk ∧ Hid (TwoK W2.heap.size W2 wr p.g.X q.g.X c d p' q')) (fun i _ => na - (intOf i).toNat)
     case atStart => exact ⟨0, p, q, Nat.zero_le _, rfl, HT0.out⟩
     case round =>
       obtain ⟨kk, P1, Q1, hkk, rfl, HT⟩ := hrel
       obtain ⟨c0, c1, c2, c3, c4, c5, c6⟩ := cfg_cells ((HT.out.bel.block bc (lt_blk Hcb2.out)).trans Hcb2.out)
       clear c0 c1 c3 c4 c6
       have hcap := HA2.out.cap
       have hcle := HA2.out.le
       unfold maxLen at hcap he2
       by_cases hlt : kk < na
       · obtain ⟨b, off, ea, hbl, o0, o1, o2, o3⟩ := HA2.out.spots kk hlt
         have hok := HA2.out.ok kk hlt
         subst ea
         generalize act kk = a at o0 o1 o2 o3 hok
         have q0 := (HT.out.bel.cell (p := ⟨b, off + kk * 4, none⟩) hbl).trans o0
         have q1 := (HT.out.bel.cell (p := ⟨b, off + kk * 4 + 1, none⟩) hbl).trans o1
         have q2 := (HT.out.bel.cell (p := ⟨b, off + kk * 4 + 2, none⟩) hbl).trans o2
         have q3 := (HT.out.bel.cell (p := ⟨b, off + kk * 4 + 3, none⟩) hbl).trans o3
         clear o0 o1 o2 o3
         obtain ⟨aT, cT, eT, _⟩ := id hok.t
         have hval : a.val = .agg #[.int .i64 a.K, .int .i64 a.A, .int .i64 a.B, .slice aT a.n cT] := by unfold ActD.val; rw [eT]
         rw [eT] at q3
         have hpk := fun W => hkpick_any a.K 10 W hok.K (by decide) (by decide)
         have hp6 := fun W => hkpick_any a.A 6 W hok.A (by decide) (by decide)
         obtain ⟨WB, hWB⟩ : ∃ WB, WB = wr.alloc (.cells #[.int .i64 a.K, .int .i64 a.A, .int .i64 a.B, .slice aT a.n cT] 48) := ⟨_, rfl⟩
         have hbB : Below wr.heap.size wr WB := by rw [hWB]; exact (Below.refl _ _).alloc (Nat.le_refl _) _
         have hbx : WB.heap[wr.heap.size]? = some (.cells #[.int .i64 a.K, .int .i64 a.A, .int .i64 a.B, .slice aT a.n cT] 48 (0, 0)) := by rw [hWB]; exact alloc_new _ _
         have HTB := hide (HT.out.below hbB)
         obtain ⟨x0, x1, x2, x3⟩ := act_cells hbx
         obtain ⟨c0, c1, c2', c3, c4, c5', c6⟩ := cfg_cells ((HTB.out.bel.block bc (lt_blk Hcb2.out)).trans Hcb2.out)
         clear c0 c1 c3 c4 c6
         have Hok := hide hok
         have Hval := hide hval
         have Hpk := hide hpk
         have Hp6 := hide hp6
         have HWB := hide hWB
         have HbB := hide hbB
         have Hbx := hide hbx
         clear hok hval hpk hp6 hWB hbB hbx eT
         by_cases h9 : pickI a.K 10 = 9
         · have hev := two_evx HTB.out (pickI a.A 6)
           have Hev := hide hev
           clear hev
           go_wp2_with (first
             | (go_at_call 10; rw [← HWB.out]; refine Calls_use (Hpk.out _) ?_; clear Hpk)
             | (go_at_call 10; refine Calls_use (Hp6.out _) ?_; clear Hp6)
             | (go_at_call 27; refine Hev.out.mono ?_; clear Hev; rintro e w7 ⟨m7, rfl, p7, hT7⟩; have HT7 := hide hT7; clear hT7))
           exact ⟨⟨kk + 1, p7, Q1, by omega, by go_num, HT7.out⟩, by simp [intOf]; omega⟩
         · have hdx := two_doesx HTB.out (a := a) (by
             obtain ⟨r1, r2, r3, r4, r5⟩ := Hok.out
             exact ⟨r1, r2, r3, r4.below (by have := HTB.out.bel; exact this), r5⟩)
           rw [Hval.out] at hdx
           have Hdx := hide hdx
           clear hdx
           go_wp2_with (first
             | (go_at_call 10; rw [← HWB.out]; refine Calls_use (Hpk.out _) ?_; clear Hpk)
             | (go_at_call 24; refine Hdx.out.mono ?_; clear Hdx; rintro e w7 ⟨code, v, p7, rfl, hk7, hh7⟩; obtain ⟨x0, x1, x2, x3⟩ := act_cells (hk7 _ _ _ Hbx.out); obtain ⟨c0, c1, c2, c3, c4, c5, c6⟩ := cfg_cells ((hh7.bel.block bc (lt_blk Hcb2.out)).trans Hcb2.out); clear c0 c1 c3 c4 c6 hk7; have HH7 := hide hh7; clear hh7))
           have hdy := two_doesy HH7.out Hm.out (a := a) (by
             obtain ⟨r1, r2, r3, r4, r5⟩ := Hok.out
             exact ⟨r1, r2, r3, r4.below HH7.out.bel, r5⟩)
           rw [Hval.out] at hdy
           refine hdy.mono ?_
           clear hdy HH7
           rintro e w8 ⟨code', v', q8, rfl, hc8, hb8⟩
           obtain ⟨c0, c1, c2, c3, c4, c5, c6⟩ := cfg_cells ((hb8.block bc (lt_blk Hcb2.out)).trans Hcb2.out)
           clear c0 c1 c3 c4 c5 c6 x0 x1 x2 x3
           have Hb8 := hide hb8
           clear hb8
           rcases hc8 with rfl | ⟨hn, rfl⟩ | ⟨hn, rfl, ⟨n8, f8, i8, i8'⟩, hT8⟩
           · go_wp2
             go_ret
             exact ⟨rfl, Hbw.out.trans (Hb8.out.mono Hbw.out.size)⟩
           · have hn6 : ¬ (code : Int) = 6 := by omega
             go_wp2
             go_ret
             exact ⟨rfl, Hbw.out.trans (Hb8.out.mono Hbw.out.size)⟩
           · have hn6 : ¬ (code' : Int) = 6 := by omega
             have hsm := ksame i8 i8'
             have Hsm := hide hsm
             have HT8 := hide hT8
             obtain ⟨va, vc, rfl, _⟩ := i8
             obtain ⟨va', vc', rfl, _⟩ := i8'
             clear hsm hT8
             by_cases hne : kk < ne
             · obtain ⟨be, oe, ee, hbe, hce⟩ := He3.out (by omega)
               subst ee
               have hfx := hce kk hne
               have hkf := HEf.out kk hne
               generalize fe kk = fx at hfx hkf
               have hp33 := fun W => hkpick_any fx 33 W hkf (by decide) (by decide)
               have Hp33 := hide hp33
               have Hce := hide hce
               clear hp33 hce
               have hfx0 := hfx
               clear hfx
               by_cases hm4 : (kk : Int) % 4 = 3
               · go_wp2_with (first
                   | (go_at_call 25; refine Hsm.out.mono ?_; clear Hsm; rintro e w9 ⟨rfl, hb9⟩; have HT9 := hide (HT8.out.below hb9); have hfx := ((HT9.out.bel.cell (p := ⟨be, oe + kk, none⟩) (Nat.lt_of_lt_of_le hbe Hbw.out.size)).trans (Hbw.out.cell (p := ⟨be, oe + kk, none⟩) hbe)).trans hfx0; obtain ⟨c0, c1, c2, c3, c4, c5, c6⟩ := cfg_cells ((HT9.out.bel.block bc (lt_blk Hcb2.out)).trans Hcb2.out); clear c0 c1 c3 c4 c5 c6 hb9)
                   | (go_at_call 10; refine Calls_use (Hp33.out _) ?_; clear Hp33)
                   | (go_at_call 27; refine (two_evy HT9.out _).mono ?_; rintro e w10 ⟨m10, rfl, q10, hT10⟩; have HT10 := hide hT10; obtain ⟨c0, c1, c2, c3, c4, c5, c6⟩ := cfg_cells ((HT10.out.bel.block bc (lt_blk Hcb2.out)).trans Hcb2.out); clear c0 c1 c3 c4 c5 c6 hT10)
                   | (go_at_call 17; refine (two_alike HT10.out Hm.out).mono ?_; rintro e w11 ⟨rfl, hT11⟩; have HT11 := hide hT11; clear hT11))
                 exact ⟨⟨kk + 1, p7, q10, by omega, by go_num, HT11.out⟩, by simp [intOf]; omega⟩
               · go_wp2_with (first
                   | (go_at_call 25; refine Hsm.out.mono ?_; clear Hsm; rintro e w9 ⟨rfl, hb9⟩; have HT9 := hide (HT8.out.below hb9); have hfx := ((HT9.out.bel.cell (p := ⟨be, oe + kk, none⟩) (Nat.lt_of_lt_of_le hbe Hbw.out.size)).trans (Hbw.out.cell (p := ⟨be, oe + kk, none⟩) hbe)).trans hfx0; obtain ⟨c0, c1, c2, c3, c4, c5, c6⟩ := cfg_cells ((HT9.out.bel.block bc (lt_blk Hcb2.out)).trans Hcb2.out); clear c0 c1 c3 c4 c5 c6 hb9)
                   | (go_at_call 10; refine Calls_use (Hp33.out _) ?_; clear Hp33)
                   | (go_at_call 27; refine (two_evy HT9.out _).mono ?_; rintro e w10 ⟨m10, rfl, q10, hT10⟩; have HT10 := hide hT10; obtain ⟨c0, c1, c2, c3, c4, c5, c6⟩ := cfg_cells ((HT10.out.bel.block bc (lt_blk Hcb2.out)).trans Hcb2.out); clear c0 c1 c3 c4 c5 c6 hT10))
                 exact ⟨⟨kk + 1, p7, q10, by omega, by go_num, HT10.out⟩, by simp [intOf]; omega⟩
             · by_cases hm4 : (kk : Int) % 4 = 3
               · go_wp2_with (first
                   | (go_at_call 25; refine Hsm.out.mono ?_; clear Hsm; rintro e w9 ⟨rfl, hb9⟩; have HT9 := hide (HT8.out.below hb9); obtain ⟨c0, c1, c2, c3, c4, c5, c6⟩ := cfg_cells ((HT9.out.bel.block bc (lt_blk Hcb2.out)).trans Hcb2.out); clear c0 c1 c3 c4 c5 c6 hb9)
                   | (go_at_call 17; refine (two_alike HT9.out Hm.out).mono ?_; rintro e w11 ⟨rfl, hT11⟩; have HT11 := hide hT11; clear hT11))
                 exact ⟨⟨kk + 1, p7, q8, by omega, by go_num, HT11.out⟩, by simp [intOf]; omega⟩
               · go_wp2_with (first
                   | (go_at_call 25; refine Hsm.out.mono ?_; clear Hsm; rintro e w9 ⟨rfl, hb9⟩; have HT9 := hide (HT8.out.below hb9); clear hb9))
                 exact ⟨⟨kk + 1, p7, q8, by omega, by go_num, HT9.out⟩, by simp [intOf]; omega⟩
       · have hal := two_alike HT.out Hm.out
         have Hal := hide hal
         clear hal
         go_wp2_with (first
           | (go_at_call 17; refine Hal.out.mono ?_; clear Hal; rintro e w7 ⟨rfl, hT7⟩; have HT7 := hide hT7; clear hT7))
         go_ret
         exact ⟨rfl, Hbw.out.trans (HT7.out.bel.mono Hbw.out.size)⟩
end Go.Proofs.Ytlmflighkkgikaa
