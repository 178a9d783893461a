import Derived.Deep.CutRange
import Derived.BigQuiet
import Derived.Deep.Light
import Derived.Test.YtlmflighkkgikaaP24
import Derived.Test.YtlmflighkkgikaaP49
import Derived.Test.YtlmflighkkgikaaP53

namespace Go.Proofs.Ytlmflighkkgikaa
open Go.RowKit
attribute [local go_sem ↓] Go.wp_at_zero Go.wp_at_succ
theorem small_len {ii mm : Nat} (h1 : ii < mm) (h2 : mm ≤ 40) : ii + 1 ≤ maxLen ∧ (ii + 1) * 8 ≤ 140737488355328 := ⟨by unfold maxLen; omega, by omega⟩
set_option maxRecDepth 100000 in
set_option maxHeartbeats 8000000 in
theorem enough_any (s : ShapeD) (hs : s.ok) (few sl : Int) (h3 : kI few) (h1 : kI sl) (aa : Option Addr) (na ca : Nat) (act : Nat → ActD) (vl : Value) (nl : Nat) (fl : Nat → Int) (w : World) (hA : ActsI w aa na ca act) (hE : Ints w vl nl fl) (hEf : ∀ j, j < nl → kI (fl j)) :
   Calls Try.prog 7 #[.agg #[.int .i64 s.l, .int .i64 s.h, .int .i64 s.p, .int .i64 s.v, .int .i64 s.s], .int .i64 few, .int .i64 sl, .slice aa na ca, vl] w fun e w' => e = .returned (.bool true) ∧ Below w.heap.size w w' := by
 obtain ⟨i0, hi, hz0, hz1, hz2⟩ := info_parts Try.info_int
 obtain ⟨ae, ce, eve, he1, he2, he3⟩ := id hE
 subst eve
 have He3 := hide he3
 clear he3
 have p1 := kpick_lt (c := sl) (n := 4) (by decide)
 have p3 := kpick_lt (c := few) (n := 32) (by decide)
 obtain ⟨n1, en1⟩ : ∃ n1 : Nat, 1 + pickI sl 4 = n1 := ⟨(1 + pickI sl 4).toNat, by omega⟩
 obtain ⟨n3, en3⟩ : ∃ n3 : Nat, 1 + pickI few 32 = n3 := ⟨(1 + pickI few 32).toNat, by omega⟩
 have w1 : IntKind.i64.wrap (n1 : Int) = n1 := wrap_in (by omega) (by omega)
 have w3 : IntKind.i64.wrap (n3 : Int) = n3 := wrap_in (by omega) (by omega)
 have hcf := fun W => hkconfig_any s hs n3 n1 (by omega) (by omega) W
 have hpk := fun W => hkpick_any sl 4 W h1 (by decide) (by decide)
 have hpk3 := fun W => hkpick_any few 32 W h3 (by decide) (by decide)
 obtain ⟨W0, hW0⟩ : ∃ W0, W0 = w.alloc (.cells #[.int .i64 s.l, .int .i64 s.h, .int .i64 s.p, .int .i64 s.v, .int .i64 s.s] 23) := ⟨_, rfl⟩
 have hb0 : Below w.heap.size w W0 := by rw [hW0]; exact (Below.refl _ _).alloc (Nat.le_refl _) _
 have hn0 : W0.heap[w.heap.size]? = some (.cells #[.int .i64 s.l, .int .i64 s.h, .int .i64 s.p, .int .i64 s.v, .int .i64 s.s] 23 (0, 0)) := by rw [hW0]; exact alloc_new _ _
 have hs0 : W0.heap.size = w.heap.size + 1 := by rw [hW0]; simp
 obtain ⟨x0, x1, x2, x3, x4⟩ := shape_cells hn0
 have Hcf := hide hcf
 have Hpk := hide hpk
 have Hpk3 := hide hpk3
 have Hw1 := hide w1
 have Hw3 := hide w3
 have HW0 := hide hW0
 have Hn0 := hide hn0
 have Hb0 := hide hb0
 have Hs0 := hide hs0
 have hne0 : w.heap.size ≠ W0.heap.size := by omega
 have Hne := hide hne0
 have hn14 : 1 ≤ n1 ∧ n1 ≤ 4 := by omega
 clear hcf hpk hpk3 w1 w3 hW0 hn0 hb0 hs0 hne0
 obtain ⟨c, ec⟩ : ∃ c, c = kcfg s n3 n1 := ⟨_, rfl⟩
 rw [← ec] at Hcf
 have Hec := hide ec
 have HA := hide hA
 have hcap := hA.cap
 have hcle := hA.le
 unfold maxLen at hcap he2
 have HE := hide hE
 have HEf := hide hEf
 clear ec hA hE hEf
 go_enter Try.func7, Try.ntmps7
 go_upto_region 2 with (go_at_call 10; rw [← HW0.out]; refine Calls_use (Hpk.out _) ?_; clear Hpk)
 go_cut [12] from 33 (fun v W => ∃ bc, v = .pointer (some ⟨bc, 0, none⟩) ∧ W0.heap.size ≤ bc ∧ W.heap[bc]? = some (.cells #[.int .i64 c.blocks, .int .i64 c.slots, .int .i64 c.layers, .int .i64 c.heads, .int .i64 c.pairs, .int .i64 c.vocab, .int .i64 c.seed] 26 (0, 0)) ∧ Below W0.heap.size W0 W)
 case first =>
   go_region_held3 (fun w' => w'.cell? ⟨w.heap.size, 0, none⟩ = some (.int .i64 s.l) ∧ w'.cell? ⟨w.heap.size, 1, none⟩ = some (.int .i64 s.h) ∧ w'.cell? ⟨w.heap.size, 2, none⟩ = some (.int .i64 s.p) ∧ w'.cell? ⟨w.heap.size, 3, none⟩ = some (.int .i64 s.v) ∧ w'.cell? ⟨w.heap.size, 4, none⟩ = some (.int .i64 s.s)) (first | go_keep | (exact ⟨(far7 Hne.out 0 _ _ _ _ _ _ _).trans z0, (far7 Hne.out 1 _ _ _ _ _ _ _).trans z1, (far7 Hne.out 2 _ _ _ _ _ _ _).trans z2, (far7 Hne.out 3 _ _ _ _ _ _ _).trans z3, (far7 Hne.out 4 _ _ _ _ _ _ _).trans z4⟩)) (first
     | (go_at_call 10; refine Calls_use (Hpk3.out _) ?_)
     | (go_at_call 9; rw [Hw3.out]; refine (Hcf.out _).mono ?_; rintro e w1 ⟨rfl, hb1⟩; (first | (have hx1 := (hb1.block w.heap.size (lt_blk Hn0.out)).trans Hn0.out; have hB1 : Below W0.heap.size W0 w1 := below_of_drewN (k := 1) hb1) | (have hx1 := (hb1.block w.heap.size (Nat.lt_of_lt_of_le (lt_blk Hn0.out) (by simp))).trans ((((Below.refl _ _).alloc (Nat.le_refl _) _).block _ (lt_blk Hn0.out)).trans Hn0.out); have hy := (hb1.block W0.heap.size (by simp)).trans (alloc_new W0 _); obtain ⟨y0, y1, y2, y3, y4, y5, y6⟩ := cfg_cells hy; have f0 := frozen_blk hy 0; have f1 := frozen_blk hy 1; have f2 := frozen_blk hy 2; have f3 := frozen_blk hy 3; have f4 := frozen_blk hy 4; have f5 := frozen_blk hy 5; have f6 := frozen_blk hy 6; have Hy := hide hy; clear hy; have hB1 : Below W0.heap.size W0 w1 := (((Below.refl W0.heap.size W0).alloc (Nat.le_refl _) _).drew).trans (hb1.mono (by simp)))); obtain ⟨z0, z1, z2, z3, z4⟩ := shape_cells hx1; have HB1 := hide hB1; have Hx1 := hide hx1; clear hb1 hx1 hB1))
   all_goals go_wp2
   all_goals go_meet
   case rel => exact ⟨_, rfl, HB1.out.size, alloc_new w1 _, (HB1.out.alloc HB1.out.size _)⟩
   case rel => exact ⟨_, rfl, Nat.le_refl _, set7_blk Hy.out _ _ _ _ _ _ _, set7_below HB1.out (Nat.le_refl _) _ _ _ _ _ _ _⟩
   case rel => exact ⟨_, rfl, Nat.le_refl _, set7_blk Hy.out _ _ _ _ _ _ _, set7_below HB1.out (Nat.le_refl _) _ _ _ _ _ _ _⟩
 case rest =>
   obtain ⟨bc, rfl, hbc, hcb, hBc⟩ := hcut
   obtain ⟨W2, hw2⟩ : ∃ W2, W2 = wc := ⟨_, rfl⟩
   subst hw2
   have hcok : c.ok := by rw [Hec.out]; exact kcfg_ok hs (by omega) (by omega)
   have hho := hkhoarded_any c hcok W2
   unfold cfgV at hho
   obtain ⟨c0, c1, c2, c3, c4, c5, c6⟩ := cfg_cells hcb
   obtain ⟨v1, v2⟩ := hcok.vocab
   have hcs : c.slots = n1 := by rw [Hec.out]; rfl
   have Hcs := hide hcs
   have Hcok := hide hcok
   have Hho := hide hho
   have Hcb2 := hide hcb
   have HBc := hide hBc
   clear hho hcb hBc x0 x1 x2 x3 x4 hcok hcs
   go_wp2_with (first
     | (go_at_call 11; refine Hho.out.mono ?_; clear Hho; rintro e w5 ⟨p, rfl, hp, epc, epL, epI, hb5⟩; have Hp := hide hp; have Hb5 := hide hb5; have Hepc := hide epc; have HepL := hide epL; clear hp hb5 epc epL epI c0 c1 c2 c3 c4 c5 c6))
   have HT0 : Hid (OneK W2.heap.size W2 w5 p.g.X c p) := ⟨Hp.out, (by rw [HepL.out]; intro x hx; cases hx), Hb5.out, rfl, Hepc.out, Nat.le_refl _⟩
   have hbw : Below w.heap.size w W2 := Hb0.out.trans (HBc.out.mono Hb0.out.size)
   have HA2 := hide (HA.out.below hbw)
   have Hbw := hide hbw
   clear hbw HA Hp Hb5 Hepc HepL
   go_loopw [14] (fun i wr => ∃ (kk : Nat) (p' : HD), kk ≤ na ∧ i = .int .i64 kk ∧ Hid (OneK W2.heap.size W2 wr p.g.X c p')) (fun i _ => na - (intOf i).toNat)
   case atStart => exact ⟨0, p, Nat.zero_le _, rfl, HT0.out⟩
   case round =>
     obtain ⟨kk, P1, hkk, rfl, HT⟩ := hrel
     obtain ⟨wo, hwo⟩ : ∃ wo, wo = wr := ⟨_, rfl⟩
     subst hwo
     by_cases hlt : kk < na
     · obtain ⟨b, off, ea, hbl, o0, o1, o2, o3⟩ := HA2.out.spots kk hlt
       have hok := HA2.out.ok kk hlt
       subst ea
       generalize act kk = a at o0 o1 o2 o3 hok
       have q0 := (HT.out.bel.cell (p := ⟨b, off + kk * 4, none⟩) hbl).trans o0
       have q1 := (HT.out.bel.cell (p := ⟨b, off + kk * 4 + 1, none⟩) hbl).trans o1
       have q2 := (HT.out.bel.cell (p := ⟨b, off + kk * 4 + 2, none⟩) hbl).trans o2
       have q3 := (HT.out.bel.cell (p := ⟨b, off + kk * 4 + 3, none⟩) hbl).trans o3
       clear o0 o1 o2 o3
       obtain ⟨aT, cT, eT, _⟩ := id hok.t
       have hval : a.val = .agg #[.int .i64 a.K, .int .i64 a.A, .int .i64 a.B, .slice aT a.n cT] := by unfold ActD.val; rw [eT]
       rw [eT] at q3
       obtain ⟨WB, hWB⟩ : ∃ WB, WB = wo.alloc (.cells #[.int .i64 a.K, .int .i64 a.A, .int .i64 a.B, .slice aT a.n cT] 48) := ⟨_, rfl⟩
       have hbB : Below wo.heap.size wo WB := by rw [hWB]; exact (Below.refl _ _).alloc (Nat.le_refl _) _
       have hbx : WB.heap[wo.heap.size]? = some (.cells #[.int .i64 a.K, .int .i64 a.A, .int .i64 a.B, .slice aT a.n cT] 48 (0, 0)) := by rw [hWB]; exact alloc_new _ _
       have HTB := hide (HT.out.below hbB)
       have Hok := hide hok
       have Hval := hide hval
       have HWB := hide hWB
       have HbB := hide hbB
       have Hbx := hide hbx
       have HeT := hide eT
       clear hok hval hWB hbB hbx eT
       go_upto_region 10 with fail
       rw [← HWB.out]
       clear q0 q1 q2 q3
       go_wp2
       go_loopw [16, 17] (fun u i wr => ∃ k1 : Nat, k1 ≤ 5 ∧ u = .int .i64 (sumB n1 P1.L k1) ∧ i = .int .i64 k1 ∧ Hid (Below WB.heap.size WB wr)) (fun _ i _ => 5 - (intOf i).toNat)
       case atStart => exact ⟨0, Nat.zero_le _, rfl, rfl, Below.refl _ _⟩
       case round =>
         obtain ⟨k1, hk1, rfl, rfl, HB⟩ := hrel
         have HT1 := hide (HTB.out.below HB.out)
         have hs40 := sumB_le HT1.out.hp k1
         rw [HT1.out.c, Hcs.out] at hs40
         by_cases hl5 : k1 < 5
         · as_aux_lemma =>
             have hto := one_tokens HT1.out k1 (by omega)
             have hl40 := nb_le40 HT1.out.hp k1
             have hse : sumB n1 P1.L (k1 + 1) = sumB n1 P1.L k1 + (lenO (tkM P1.L k1) + n1 - 1) / n1 := rfl
             have hnl := nbOf_le (s := n1) (n := lenO (tkM P1.L k1)) hn14.1
             unfold nbOf at hnl
             generalize lenO (tkM P1.L k1) = l1 at hto hl40 hse hnl
             have hbk := fun W => hkblocks_any l1 n1 W (by omega) hn14
             have Hto := hide hto
             have Hbk := hide hbk
             have Hse := hide hse
             clear hto hbk hse
             generalize (l1 + n1 - 1) / n1 = nb1 at Hbk Hse hnl
             go_wp2_with (first
               | (go_at_call 26; refine Hto.out.mono ?_; clear Hto; rintro e w7 ⟨a7, c7, rfl, _, hb7⟩; have HB7 := hide (HB.out.trans (hb7.mono HB.out.size)); clear hb7)
               | (go_at_call 20; refine Calls_use (Hbk.out _) ?_; clear Hbk))
             exact ⟨⟨k1 + 1, by omega, by rw [Hse.out]; go_num, by go_num, HB7.out⟩, by simp [intOf]; omega⟩
         · as_aux_lemma =>
             have hk5 : k1 = 5 := by omega
             subst hk5
             have hA5 := kpick_lt (c := a.A) (n := 5) (by decide)
             have hto := one_tokens HT1.out (pickI a.A 5) hA5
             have hl40 := nb_le40 HT1.out.hp (pickI a.A 5)
             have hia := fun W => hkid_any a.A W Hok.out.A
             have hpk := fun W => hkpick_any a.K 10 W Hok.out.K (by decide) (by decide)
             have hcode : codeO (tkM P1.L (pickI a.A 5)) ≤ 3 := by cases tkM P1.L (pickI a.A 5) <;> simp [codeO]
             have hax := (HB.out.block _ (lt_blk Hbx.out)).trans Hbx.out
             obtain ⟨x0, x1, x2, x3⟩ := act_cells hax
             have hsumA := sumA_eq n1 P1.L a
             generalize hl1 : lenO (tkM P1.L (pickI a.A 5)) = l1 at hto hl40 hsumA
             generalize hco : codeO (tkM P1.L (pickI a.A 5)) = co at hto hcode
             have Hto := hide hto
             have Hia := hide hia
             have Hpk := hide hpk
             have Hax := hide hax
             have Hco := hide hco
             have HsA := hide hsumA
             clear hto hia hpk hax hco hl1 hsumA
             go_upto_region 17 with (first
               | (go_at_call 22; refine Calls_use (Hia.out _) ?_; clear Hia)
               | (go_at_call 26; refine Hto.out.mono ?_; clear Hto; rintro e w7 ⟨a7, c7, rfl, hi7, hb7⟩; obtain ⟨x0, x1, x2, x3⟩ := act_cells ((hb7.block _ (lt_blk Hax.out)).trans Hax.out); have HT7 := hide (HT1.out.below hb7); have Hax7 := hide ((hb7.block _ (lt_blk Hax.out)).trans Hax.out); clear hb7 hi7 Hax))
             obtain ⟨c0, c1, c2, c3, c4, c5, c6⟩ := cfg_cells ((HT7.out.bel.block bc (lt_blk Hcb2.out)).trans Hcb2.out)
             clear c1 c2 c3 c4 c6
             iterate 9 (first | go_values | go_skip | go_guarded | go_step | go_upon | go_back)
             (go_at_call 10; refine Calls_use (Hpk.out _) ?_)
             simp only []
             iterate 4 (first | go_values | go_skip | go_guarded | go_step | go_upon | go_back)
             go_cut [16] from 46 to 161 (fun v W => v = .int .i64 (sumA n1 P1.L a) ∧ Below w7.heap.size w7 W)
             case first =>
               as_aux_lemma =>
                 have k0 := kpick_lt (c := a.K) (n := 10) (by decide)
                 have hsl200 : sumB n1 P1.L 5 ≤ 200 := by omega
                 generalize sumB n1 P1.L 5 = sS at HsA hsl200 ⊢
                 have htks : ∀ (m : Nat), m ≤ 40 → ∀ W, Below w7.heap.size w7 W → Calls Try.prog 12 #[.slice aT a.n cT, .int .i64 c.vocab, .int .i64 m] W fun e w' => ∃ r, e = .returned r ∧ w'.ownsRow W.heap.size 3 1 r (min a.n m) ((List.range (min a.n m)).map fun j => .int .i64 (pickI (a.f j) c.vocab)) ∧ Below w7.heap.size w7 w' := fun m hm W hW => by
                   refine (hktokens_any a.n c.vocab m (.slice aT a.n cT) a.f W (by rw [← HeT.out]; exact (Hok.out.t.below HT7.out.bel).below hW) (by omega) hm Hok.out.f).mono ?_
                   rintro e w' ⟨r, he, ho, hb⟩
                   exact ⟨r, he, ho, hW.trans (hb.mono hW.size)⟩
                 have Htks := hide htks
                 have hbk : ∀ (x : Int) (W : World), 0 ≤ x → x ≤ 100 → Calls Try.prog 20 #[.int .i64 x, .int .i64 n1] W fun e w' => e = .returned (.int .i64 (nbI n1 x)) ∧ w' = W := fun x W h0 h1 => by
                   obtain ⟨m, rfl⟩ : ∃ m : Nat, x = m := ⟨x.toNat, by omega⟩
                   rw [nbI_cast]
                   exact hkblocks_any m n1 W (by omega) hn14
                 have Hbk := hide hbk
                 clear htks hbk
                 by_cases g2 : pickI a.K 10 ≤ 2
                 · as_aux_lemma =>
                     have hSA : sumA n1 P1.L a = sS + nbOf n1 (min a.n 9) := by rw [HsA.out, if_pos g2]
                     have hnb := nbOf_le (s := n1) (n := min a.n 9) hn14.1
                     have htk := Htks.out 9 (by omega) w7 (Below.refl _ _)
                     have hm9 : min a.n 9 ≤ 9 := by omega
                     generalize min a.n 9 = m9 at hSA hnb htk hm9
                     have hb9 := fun W => Hbk.out m9 W (by omega) (by omega)
                     rw [nbI_cast] at hb9
                     generalize nbOf n1 m9 = nb9 at hSA hnb hb9
                     have Htk := hide htk
                     have Hb9 := hide hb9
                     have HSA := hide hSA
                     clear htk hb9 hSA HsA
                     have g3 : pickI a.K 10 = 0 ∨ pickI a.K 10 = 1 ∨ pickI a.K 10 = 2 := by omega
                     rcases g3 with g3 | g3 | g3
                     all_goals go_wp2_with (first
                       | (go_at_call 12; refine Htk.out.mono ?_; clear Htk; rintro e w8 ⟨r8, rfl, ho8, hb8⟩; obtain ⟨a8, c8, rfl⟩ := owns_form ho8; have HB8 := hide hb8; clear hb8 ho8)
                       | (go_at_call 20; refine Calls_use (Hb9.out _) ?_; clear Hb9))
                     all_goals go_meet
                     all_goals exact ⟨by rw [HSA.out], HB8.out⟩
                 · by_cases g4 : pickI a.K 10 ≤ 4
                   · as_aux_lemma =>
                       have hSA : sumA n1 P1.L a = sS - nbOf n1 l1 + nbOf n1 (l1 + min a.n 4) := by rw [HsA.out, if_neg g2, if_pos g4]
                       have htk := fun W hb => Htks.out 4 (by omega) W hb
                       have hm4 : min a.n 4 ≤ 4 := by omega
                       generalize min a.n 4 = m4 at hSA htk hm4
                       have hnb : (nbOf n1 l1 : Int) ≤ l1 := by have := nbOf_le (s := n1) (n := l1) hn14.1; omega
                       have hnb2 : (nbOf n1 (l1 + m4) : Int) ≤ l1 + m4 := by have := nbOf_le (s := n1) (n := l1 + m4) hn14.1; omega
                       rw [← nbI_cast n1 l1] at hSA hnb
                       rw [← nbI_add n1 l1 m4] at hSA hnb2
                       have hz1 : 0 ≤ nbI n1 l1 := by unfold nbI; omega
                       have hz2 : 0 ≤ nbI n1 ((l1 : Int) + m4) := by unfold nbI; omega
                       have Hw4 : Hid (IntKind.i64.wrap ((l1 : Int) + m4) = l1 + m4) := wrap_in (by omega) (by omega)
                       have HwA : Hid (IntKind.i64.wrap ((sS : Int) - nbI n1 l1) = sS - nbI n1 l1) := wrap_in (by omega) (by omega)
                       have HwB : Hid (IntKind.i64.wrap ((sS : Int) - nbI n1 l1 + nbI n1 ((l1 : Int) + m4)) = sS - nbI n1 l1 + nbI n1 ((l1 : Int) + m4)) := wrap_in (by omega) (by omega)
                       have Htk := hide htk
                       have HSA := hide hSA
                       have Hc7 := hide ((HT7.out.bel.block bc (lt_blk Hcb2.out)).trans Hcb2.out)
                       clear htk hSA HsA
                       have g3 : pickI a.K 10 = 3 ∨ pickI a.K 10 = 4 := by omega
                       rcases g3 with g3 | g3
                       all_goals go_upto_region 24 with fail
                       all_goals go_region_held3 (fun w' => w'.cell? ⟨wo.heap.size, 3, none⟩ = some (.slice aT a.n cT) ∧ w'.cell? ⟨bc, 5, none⟩ = some (.int .i64 c.vocab)) (go_keep) (first
                         | (go_at_call 12; refine (Htk.out _ (by first | exact Below.refl _ _ | exact below_drewN (Below.refl _ _) _)).mono ?_; rintro e w8 ⟨r8, rfl, ho8, hb8⟩; obtain ⟨a8, c8, rfl⟩ := owns_form ho8; obtain ⟨y0, y1, y2, y3⟩ := act_cells ((hb8.block _ (lt_blk Hax7.out)).trans Hax7.out); obtain ⟨d0, d1, d2, d3, d4, d5, d6⟩ := cfg_cells ((hb8.block _ (lt_blk Hc7.out)).trans Hc7.out); have HB8 := hide hb8; clear hb8 ho8 y0 y1 y2 d0 d1 d2 d3 d4 d6)
                         | (go_at_call 20; (try rw [Hw4.out]); refine Calls_use (Hbk.out _ _ (by omega) (by omega)) ?_))
                       all_goals go_wp2
                       all_goals go_meet
                       all_goals exact ⟨by rw [HSA.out, HwA.out, HwB.out], HB8.out⟩
                   · by_cases g6 : pickI a.K 10 ≤ 6
                     · as_aux_lemma =>
                         have hB5 := kpick_lt (c := a.B) (n := 5) (by decide)
                         obtain ⟨m5, em5⟩ : ∃ m5 : Nat, pickI a.B 5 = m5 := ⟨(pickI a.B 5).toNat, by omega⟩
                         have hSA : sumA n1 P1.L a = sS - nbOf n1 l1 + nbOf n1 (l1 + m5) := by rw [HsA.out, if_neg g2, if_neg g4, if_pos g6, em5, Int.toNat_natCast]
                         have hnb : (nbOf n1 l1 : Int) ≤ l1 := by have := nbOf_le (s := n1) (n := l1) hn14.1; omega
                         have hnb2 : (nbOf n1 (l1 + m5) : Int) ≤ l1 + m5 := by have := nbOf_le (s := n1) (n := l1 + m5) hn14.1; omega
                         have hpb := fun W => hkpick_any a.B 5 W Hok.out.B (by decide) (by decide)
                         rw [em5] at hpb hB5
                         rw [← nbI_cast n1 l1] at hSA hnb
                         rw [← nbI_add n1 l1 m5] at hSA hnb2
                         have hz1 : 0 ≤ nbI n1 l1 := by unfold nbI; omega
                         have hz2 : 0 ≤ nbI n1 ((l1 : Int) + m5) := by unfold nbI; omega
                         have Hpb := hide hpb
                         have HSA := hide hSA
                         clear hpb hSA HsA em5
                         have g3 : pickI a.K 10 = 5 ∨ pickI a.K 10 = 6 := by omega
                         rcases g3 with g3 | g3
                         all_goals go_upto_region 27 with fail
                         all_goals go_quiet (first
                           | (go_at_call 10; exact Calls.quiet_of_same (Hpb.out _))
                           | (go_at_call 20; exact Calls.quiet_of_same (Hbk.out _ _ (by omega) (by omega))))
                         all_goals go_wp2
                         all_goals go_meet
                         all_goals exact ⟨by rw [HSA.out], below_drewN (Below.refl _ _) _⟩
                     · as_aux_lemma =>
                         have hSA : sumA n1 P1.L a = sS := by rw [HsA.out, if_neg g2, if_neg g4, if_neg g6]
                         have g3 : pickI a.K 10 = 7 ∨ pickI a.K 10 = 8 ∨ pickI a.K 10 = 9 := by omega
                         have HSA := hide hSA
                         clear hSA HsA
                         rcases g3 with g3 | g3 | g3
                         all_goals go_wp2
                         all_goals go_meet
                         all_goals exact ⟨by rw [HSA.out], Below.refl _ _⟩
             case rest =>
               obtain ⟨rfl, hb8⟩ := hcut
               obtain ⟨W8, hw8⟩ : ∃ W8, W8 = wc := ⟨_, rfl⟩
               subst hw8
               have HT8 := hide (HT7.out.below hb8)
               have hax8 := (hb8.block _ (lt_blk Hax7.out)).trans Hax7.out
               clear x0 x1 x2 x3 c0 c5
               obtain ⟨x0, x1, x2, x3⟩ := act_cells hax8
               obtain ⟨c0, c1, c2, c3, c4, c5, c6⟩ := cfg_cells ((HT8.out.bel.block bc (lt_blk Hcb2.out)).trans Hcb2.out)
               have hdo := one_does HT8.out (a := a) (by
                 obtain ⟨r1, r2, r3, r4, r5⟩ := Hok.out
                 exact ⟨r1, r2, r3, r4.below HT8.out.bel, r5⟩)
               rw [Hval.out] at hdo
               have Hdo := hide hdo
               have Hax8 := hide hax8
               have hfu : FullK P1 a → (c.blocks : Int) < sumA n1 P1.L a ∧ (2 < pickI a.K 10 → co = 0) := fun h => by
                 have := full_told HT8.out.hp HT8.out.ip h
                 rw [HT8.out.c, Hcs.out, Hco.out] at this
                 exact this
               have Hfu := hide hfu
               clear hb8 hdo hax8 c1 c2 c3 c4 c6 HsA hfu
               generalize sumA n1 P1.L a = sA at *
               go_upto_region 29 with (go_at_call 24; refine Hdo.out.mono ?_; clear Hdo; rintro e w9 ⟨code, v9, P2, rfl, hk9, hT9, hact⟩; obtain ⟨x0, x1, x2, x3⟩ := act_cells (hk9 _ (by unfold mutT; decide) _ _ _ Hax8.out); obtain ⟨c0, c1, c2, c3, c4, c5, c6⟩ := cfg_cells ((hT9.bel.block bc (lt_blk Hcb2.out)).trans Hcb2.out); have HT9 := hide hT9; have Hact := hide hact; clear hk9 hT9 hact c1 c2 c3 c4 c5 c6)
               go_cut [161] from 46 to 161 (fun v W => v = .bool false ∧ W = w9)
               case first =>
                 as_aux_lemma =>
                   by_cases h6 : code = 6
                   · obtain ⟨f1, f2⟩ := Hfu.out (Hact.out.full h6)
                     subst h6
                     by_cases hc0 : co = 0
                     · subst hc0
                       go_wp2
                       go_meet
                       case rel => exact ⟨by rw [decide_eq_false (by omega)], rfl⟩
                     · have hk2 : ¬ 2 < pickI a.K 10 := fun q => hc0 (f2 q)
                       have hc0' : ¬ (co : Int) = 0 := by omega
                       clear f2
                       go_wp2_with (go_at_call 10; refine Calls_use (Hpk.out _) ?_)
                       go_meet
                       case rel => exact ⟨by rw [decide_eq_false (by omega : ¬ sA ≤ (c.blocks : Int)), decide_eq_false (by omega : ¬ 2 < pickI a.K 10)]; simp, rfl⟩
                   · have h6' : ¬ (code : Int) = 6 := by omega
                     go_wp2
                     go_meet
                     case rel => exact ⟨rfl, rfl⟩
               case rest =>
                 obtain ⟨rfl, rfl⟩ := hcut
                 go_wp2
                 exact ⟨⟨kk + 1, P2, by omega, by go_num, HT9.out⟩, by simp [intOf]; omega⟩
     · as_aux_lemma =>
         have hfr0 : idsFrom 0 P1.L := fun x hx => by have := HT.out.ip x hx; omega
         have Hfr0 := hide hfr0
         clear hfr0
         go_wp2
         go_loopw [24] (fun i wr => ∃ (k1 : Nat) (p' : HD), k1 ≤ 5 ∧ i = .int .i64 k1 ∧ Hid (OneK W2.heap.size W2 wr p.g.X c p') ∧ Hid (idsFrom k1 p'.L)) (fun i _ => 5 - (intOf i).toNat)
         case atStart => exact ⟨0, P1, Nat.zero_le _, rfl, HT.out, Hfr0.out⟩
         case round =>
           obtain ⟨k1, P3, hk1, rfl, HT3, HF3⟩ := hrel
           by_cases hl5 : k1 < 5
           · have hfr := one_free HT3.out k1 hl5 HF3.out
             have Hfr := hide hfr
             clear hfr
             go_wp2_with (go_at_call 19; refine Hfr.out.mono ?_; clear Hfr; rintro e w7 ⟨m7, rfl, p7, hT7, hf7⟩; have HT7 := hide hT7; have HF7 := hide hf7; clear hT7 hf7)
             exact ⟨⟨k1 + 1, p7, by omega, by go_num, HT7.out, HF7.out⟩, by simp [intOf]; omega⟩
           · as_aux_lemma =>
               have hk5 : k1 = 5 := by omega
               subst hk5
               have hL0 : P3.L = [] := by
                 cases e : P3.L with
                 | nil => rfl
                 | cons x L => have h := HF3.out x (by rw [e]; simp); omega
               have hev := one_evict_all HT3.out hL0
               have Hev := hide hev
               clear hev
               go_upto_region 36 with (go_at_call 27; refine Hev.out.mono ?_; clear Hev; rintro e w8 ⟨m8, rfl, p8, hT8, hL8, hI8⟩; have HT8 := hide hT8; have HL8 := hide hL8; have HI8 := hide hI8; clear hT8 hL8 hI8)
               have h0 := HT8.out.hp.cok.blocks
               have hs0' := HT8.out.hp.cok.slots
               rw [HT8.out.c] at h0 hs0'
               have hst : ∀ W, Below w8.heap.size w8 W → Calls Try.prog 18 #[.pointer (some ⟨p.g.X, 0, none⟩)] W fun e w' => e = .returned (.agg #[.int .i64 c.blocks, .int .i64 0, .int .i64 0]) ∧ Below W.heap.size W w' := fun W hW => by
                 obtain ⟨f9, i9, u9, e9, _, _, h9⟩ := one_stats HT8.out
                 have q := h9 W hW
                 unfold stat3 at e9
                 rw [HL8.out, HI8.out] at e9
                 injection e9 with ea eb
                 injection eb with eb ec
                 subst ea eb ec
                 exact q
               obtain ⟨c0, c1, c2, c3, c4, c5, c6⟩ := cfg_cells ((HT8.out.bel.block bc (lt_blk Hcb2.out)).trans Hcb2.out)
               have Hst := hide hst
               clear hst c1 c2 c3 c4 c5 c6 hL0
               go_cut [176] from 33 (fun v W => v = .bool false ∧ Below w8.heap.size w8 W)
               case first =>
                 as_aux_lemma =>
                   go_region_held3 (fun w' => w'.cell? ⟨bc, 0, none⟩ = some (.int .i64 c.blocks)) (go_keep) (first
                     | (go_at_call 18; refine (Hst.out _ (by first | exact Below.refl _ _ | exact below_drewN (Below.refl _ _) _)).mono ?_; rintro e w9 ⟨rfl, hb9⟩; have hB9 : Below w8.heap.size w8 w9 := (below_of_drewN (k := 1) hb9); have c9 := (hB9.cell (p := ⟨bc, 0, none⟩) (kcell_lt c0)).trans c0; have HB9 := hide hB9; clear hb9 hB9))
                   all_goals go_wp2
                   all_goals go_meet
                   all_goals exact ⟨by first | rfl | simp, HB9.out⟩
               case rest =>
                 obtain ⟨rfl, hb9⟩ := hcut
                 obtain ⟨W9, hw9⟩ : ∃ W9, W9 = wc := ⟨_, rfl⟩
                 subst hw9
                 have HT9 := hide (HT8.out.below hb9)
                 clear c0 hb9
                 obtain ⟨c0, c1, c2, c3, c4, c5, c6⟩ := cfg_cells ((HT9.out.bel.block bc (lt_blk Hcb2.out)).trans Hcb2.out)
                 clear c1 c2 c3 c4 c6
                 have hmul : 1 ≤ c.blocks * n1 ∧ c.blocks * n1 ≤ 128 := by
                   have e1 := Nat.mul_le_mul h0.1 hn14.1
                   have e2 := Nat.mul_le_mul h0.2 hn14.2
                   omega
                 have hcast : ((c.blocks : Int) * n1) = ((c.blocks * n1 : Nat) : Int) := by omega
                 obtain ⟨mb, hmb⟩ : ∃ mb, mb = c.blocks * n1 := ⟨_, rfl⟩
                 rw [← hmb] at hmul hcast
                 have Hmb := hide hmb
                 clear hmb h0 hs0'
                 have HL9 := hide HL8.out
                 obtain ⟨fx, hfx, hfx0⟩ : ∃ fx : Nat → Int, (∀ j, j < nl → fx j = fl j) ∧ ∀ j, ¬ j < nl → fx j = 0 := ⟨fun j => if j < nl then fl j else 0, fun j hj => if_pos hj, fun j hj => if_neg hj⟩
                 have hpx : ∀ (j : Nat) (W : World), Calls Try.prog 10 #[.int .i64 (fx j), .int .i64 c.vocab] W fun e w' => e = .returned (.int .i64 (pickI (fx j) c.vocab)) ∧ w' = W := fun j W => hkpick_any (fx j) c.vocab W (by
                   by_cases hj : j < nl
                   · rw [hfx j hj]; exact HEf.out j hj
                   · rw [hfx0 j hj]; omega) (by omega) (by omega)
                 have Hpx := hide hpx
                 have Hfx := hide hfx
                 have Hfx0 := hide hfx0
                 clear hpx hfx hfx0
                 go_upto_region 39 with fail
                 clear c0 c5
                 by_cases hm40 : 40 < mb
                 · as_aux_lemma =>
                     obtain ⟨mm, hm9⟩ : ∃ mm : Nat, (40 : Int) = mm := ⟨40, rfl⟩
                     have hmm : 1 ≤ mm ∧ mm ≤ 40 ∧ mm ≤ mb := by omega
                     have Hm9 := hide hm9
                     clear hm9
                     go_upto_region 41 with fail
                     go_cut [25, 26] from 33 (fun a b W => a = .int .i64 ((mm : Nat) : Int) ∧ b = .slice none 0 0 ∧ W = W9)
                     case first =>
                       as_aux_lemma =>
                         go_wp2
                         go_meet
                         case rel => exact ⟨by rw [Hm9.out], rfl, rfl⟩
                     case rest =>
                       obtain ⟨rfl, rfl, rfl⟩ := hcut
                       obtain ⟨W9, hw9⟩ : ∃ W9, W9 = wc := ⟨_, rfl⟩
                       subst hw9
                       clear hm40
                       go_wp2
                       go_loopw [26, 27] (fun o i wr => ∃ ii : Nat, ii ≤ mm ∧ i = .int .i64 ii ∧ wr.ownsRow W9.heap.size 3 1 o ii ((List.range ii).map fun j => .int .i64 (pickI (fx j) c.vocab)) ∧ Hid (Below W9.heap.size W9 wr)) (fun _ i _ => mm - (intOf i).toNat)
                       case atStart => exact ⟨0, Nat.zero_le _, rfl, World.ownsRow_nil _ _ _ _, Below.refl _ _⟩
                       case round =>
                         obtain ⟨ii, hii, rfl, hown, HBr⟩ := hrel
                         have hsz := HBr.out.size
                         have HTr := hide (HT9.out.below HBr.out)
                         obtain ⟨c0, c1, c2, c3, c4, c5, c6⟩ := cfg_cells ((HTr.out.bel.block bc (lt_blk Hcb2.out)).trans Hcb2.out)
                         clear c0 c1 c2 c3 c4 c6
                         by_cases hlt : ii < mm
                         · have hpx := Hpx.out ii
                           by_cases hln : ii < nl
                           · as_aux_lemma =>
                               obtain ⟨be, oe, ee, hbe, hce⟩ := He3.out (by omega)
                               have hc1 := hce ii hln
                               have hc2 := ((HTr.out.bel.cell (p := ⟨be, oe + ii, none⟩) (Nat.lt_of_lt_of_le hbe Hbw.out.size)).trans (Hbw.out.cell (p := ⟨be, oe + ii, none⟩) hbe)).trans hc1
                               have efx : fl ii = fx ii := (Hfx.out ii hln).symm
                               rw [efx] at hc2
                               subst ee
                               generalize hx : fx ii = x at hc2 hpx
                               have Hx := hide hx
                               have Hpx1 := hide hpx
                               clear hc1 hce efx hx hpx
                               go_wp2_with (first
                                 | (go_at_call 10; refine Calls_use (Hpx1.out _) ?_; clear Hpx1)
                                 | (at_builtin; refine wpList_append_own _ rfl _ _ 24 rfl W9.heap.size 3 i0 (.int .i64 0) 1 8 Try.underlying24 hi hz0 hz1 hz2 rfl (by decide) u26 ii _ rfl (hown.alloc _) ⟨wr.heap.size, 0, none⟩ 1 1 [.int .i64 (pickI x c.vocab)] rfl rfl (one_new wr _ _) (one_int _) (small_len hlt hmm.2.1).1 (small_len hlt hmm.2.1).2 (Nat.le_trans hsz (by simp)) ?_; intro v10 w10 hown10 hgrow10 _))
                               have hb10 : Below W9.heap.size W9 w10 := (HBr.out.alloc hsz _).grown hgrow10 (by simp; omega) (fun g hg => (hown.lt g hg).1)
                               rw [← Hx.out, ← range_map_succ (fun j => Value.int .i64 (pickI (fx j) c.vocab))] at hown10
                               go_roundw
                               case rel => exact ⟨ii + 1, hlt, by go_num, hown10, hb10⟩
                               case measure =>
                                 clear HTr HBr
                                 simp [intOf]
                                 omega
                           · as_aux_lemma =>
                               have efx : fx ii = 0 := Hfx0.out ii hln
                               rw [efx] at hpx
                               have Hpx1 := hide hpx
                               have Hefx := hide efx
                               clear hpx efx
                               go_wp2_with (first
                                 | (go_at_call 10; refine Calls_use (Hpx1.out _) ?_; clear Hpx1)
                                 | (at_builtin; refine wpList_append_own _ rfl _ _ 24 rfl W9.heap.size 3 i0 (.int .i64 0) 1 8 Try.underlying24 hi hz0 hz1 hz2 rfl (by decide) u26 ii _ rfl (hown.alloc _) ⟨wr.heap.size, 0, none⟩ 1 1 [.int .i64 (pickI 0 c.vocab)] rfl rfl (one_new wr _ _) (one_int _) (small_len hlt hmm.2.1).1 (small_len hlt hmm.2.1).2 (Nat.le_trans hsz (by simp)) ?_; intro v10 w10 hown10 hgrow10 _))
                               have hb10 : Below W9.heap.size W9 w10 := (HBr.out.alloc hsz _).grown hgrow10 (by simp; omega) (fun g hg => (hown.lt g hg).1)
                               rw [← Hefx.out, ← range_map_succ (fun j => Value.int .i64 (pickI (fx j) c.vocab))] at hown10
                               go_roundw
                               case rel => exact ⟨ii + 1, hlt, by go_num, hown10, hb10⟩
                               case measure =>
                                 clear HTr HBr
                                 simp [intOf]
                                 omega
                         · as_aux_lemma =>
                             have hie : ii = mm := by omega
                             subst hie
                             have hIa := IntsT.of_owns hown
                             have hcr := one_create_all HTr.out HL9.out hIa.ints hmm.1 hmm.2.1 (by rw [Hcs.out, ← Hmb.out]; exact hmm.2.2) (fun j _ => pick_tok (by omega))
                             have Hcr := hide hcr
                             have HIa := hide hIa
                             clear hcr hIa
                             go_upto_region 50 with (go_at_call 13; refine Hcr.out.mono ?_; clear Hcr; rintro e w11 ⟨rfl, hk11, p11, hT11, htk11⟩; have HT11 := hide hT11; have HIa11 := hide (HIa.out.keep hk11); have Htk11 := hide htk11; clear hk11 hT11 htk11)
                             have hto := ktokens HT11.out.hp 0 (by omega)
                             rw [HT11.out.X, Htk11.out] at hto
                             have hto' : Calls Try.prog 26 #[.pointer (some ⟨p.g.X, 0, none⟩), .int .i64 0] w11 fun e w' => ∃ r, e = .returned (.tuple #[r, .int .i64 0]) ∧ IntsT w' r ii (fun j => pickI (fx j) c.vocab) ∧ Below w11.heap.size w11 w' := by
                               refine hto.mono ?_
                               rintro e w' ⟨r, rfl, hr, hb⟩
                               refine ⟨r, rfl, ?_, hb⟩
                               have e1 : lenO (some (natsOf ii (fun j => pickI (fx j) c.vocab))) = ii := natsOf_len _ _
                               rw [e1] at hr
                               exact hr.congr (fun j hj => natsOf_tk _ _ j hj (by have := kpick_lt (c := fx j) (n := c.vocab) (by omega); omega))
                             have Hto := hide hto'
                             clear hto hto'
                             go_wp2_with (first
                               | (go_at_call 26; refine Hto.out.mono ?_; clear Hto; rintro e w12 ⟨r12, rfl, hr12, hb12⟩; have HT12 := hide (HT11.out.below hb12); have Hsm := hide (ksame hr12 (HIa11.out.bel hb12)); clear hb12 hr12)
                               | (go_at_call 25; refine Hsm.out.mono ?_; clear Hsm; rintro e w13 ⟨rfl, hb13⟩; have HT13 := hide (HT12.out.below hb13); clear hb13))
                             go_ret
                             exact ⟨rfl, Hbw.out.trans (HT13.out.bel.mono Hbw.out.size)⟩
                 · as_aux_lemma =>
                     obtain ⟨mm, hm9⟩ : ∃ mm : Nat, mb = mm := ⟨mb, rfl⟩
                     have hmm : 1 ≤ mm ∧ mm ≤ 40 ∧ mm ≤ mb := by omega
                     have Hm9 := hide hm9
                     clear hm9
                     go_upto_region 41 with fail
                     go_cut [25, 26] from 33 (fun a b W => a = .int .i64 ((mm : Nat) : Int) ∧ b = .slice none 0 0 ∧ W = W9)
                     case first =>
                       as_aux_lemma =>
                         go_wp2
                         go_meet
                         case rel => exact ⟨by rw [Hm9.out], rfl, rfl⟩
                     case rest =>
                       obtain ⟨rfl, rfl, rfl⟩ := hcut
                       obtain ⟨W9, hw9⟩ : ∃ W9, W9 = wc := ⟨_, rfl⟩
                       subst hw9
                       clear hm40
                       go_wp2
                       go_loopw [26, 27] (fun o i wr => ∃ ii : Nat, ii ≤ mm ∧ i = .int .i64 ii ∧ wr.ownsRow W9.heap.size 3 1 o ii ((List.range ii).map fun j => .int .i64 (pickI (fx j) c.vocab)) ∧ Hid (Below W9.heap.size W9 wr)) (fun _ i _ => mm - (intOf i).toNat)
                       case atStart => exact ⟨0, Nat.zero_le _, rfl, World.ownsRow_nil _ _ _ _, Below.refl _ _⟩
                       case round =>
                         obtain ⟨ii, hii, rfl, hown, HBr⟩ := hrel
                         have hsz := HBr.out.size
                         have HTr := hide (HT9.out.below HBr.out)
                         obtain ⟨c0, c1, c2, c3, c4, c5, c6⟩ := cfg_cells ((HTr.out.bel.block bc (lt_blk Hcb2.out)).trans Hcb2.out)
                         clear c0 c1 c2 c3 c4 c6
                         by_cases hlt : ii < mm
                         · have hpx := Hpx.out ii
                           by_cases hln : ii < nl
                           · as_aux_lemma =>
                               obtain ⟨be, oe, ee, hbe, hce⟩ := He3.out (by omega)
                               have hc1 := hce ii hln
                               have hc2 := ((HTr.out.bel.cell (p := ⟨be, oe + ii, none⟩) (Nat.lt_of_lt_of_le hbe Hbw.out.size)).trans (Hbw.out.cell (p := ⟨be, oe + ii, none⟩) hbe)).trans hc1
                               have efx : fl ii = fx ii := (Hfx.out ii hln).symm
                               rw [efx] at hc2
                               subst ee
                               generalize hx : fx ii = x at hc2 hpx
                               have Hx := hide hx
                               have Hpx1 := hide hpx
                               clear hc1 hce efx hx hpx
                               go_wp2_with (first
                                 | (go_at_call 10; refine Calls_use (Hpx1.out _) ?_; clear Hpx1)
                                 | (at_builtin; refine wpList_append_own _ rfl _ _ 24 rfl W9.heap.size 3 i0 (.int .i64 0) 1 8 Try.underlying24 hi hz0 hz1 hz2 rfl (by decide) u26 ii _ rfl (hown.alloc _) ⟨wr.heap.size, 0, none⟩ 1 1 [.int .i64 (pickI x c.vocab)] rfl rfl (one_new wr _ _) (one_int _) (small_len hlt hmm.2.1).1 (small_len hlt hmm.2.1).2 (Nat.le_trans hsz (by simp)) ?_; intro v10 w10 hown10 hgrow10 _))
                               have hb10 : Below W9.heap.size W9 w10 := (HBr.out.alloc hsz _).grown hgrow10 (by simp; omega) (fun g hg => (hown.lt g hg).1)
                               rw [← Hx.out, ← range_map_succ (fun j => Value.int .i64 (pickI (fx j) c.vocab))] at hown10
                               go_roundw
                               case rel => exact ⟨ii + 1, hlt, by go_num, hown10, hb10⟩
                               case measure =>
                                 clear HTr HBr
                                 simp [intOf]
                                 omega
                           · as_aux_lemma =>
                               have efx : fx ii = 0 := Hfx0.out ii hln
                               rw [efx] at hpx
                               have Hpx1 := hide hpx
                               have Hefx := hide efx
                               clear hpx efx
                               go_wp2_with (first
                                 | (go_at_call 10; refine Calls_use (Hpx1.out _) ?_; clear Hpx1)
                                 | (at_builtin; refine wpList_append_own _ rfl _ _ 24 rfl W9.heap.size 3 i0 (.int .i64 0) 1 8 Try.underlying24 hi hz0 hz1 hz2 rfl (by decide) u26 ii _ rfl (hown.alloc _) ⟨wr.heap.size, 0, none⟩ 1 1 [.int .i64 (pickI 0 c.vocab)] rfl rfl (one_new wr _ _) (one_int _) (small_len hlt hmm.2.1).1 (small_len hlt hmm.2.1).2 (Nat.le_trans hsz (by simp)) ?_; intro v10 w10 hown10 hgrow10 _))
                               have hb10 : Below W9.heap.size W9 w10 := (HBr.out.alloc hsz _).grown hgrow10 (by simp; omega) (fun g hg => (hown.lt g hg).1)
                               rw [← Hefx.out, ← range_map_succ (fun j => Value.int .i64 (pickI (fx j) c.vocab))] at hown10
                               go_roundw
                               case rel => exact ⟨ii + 1, hlt, by go_num, hown10, hb10⟩
                               case measure =>
                                 clear HTr HBr
                                 simp [intOf]
                                 omega
                         · as_aux_lemma =>
                             have hie : ii = mm := by omega
                             subst hie
                             have hIa := IntsT.of_owns hown
                             have hcr := one_create_all HTr.out HL9.out hIa.ints hmm.1 hmm.2.1 (by rw [Hcs.out, ← Hmb.out]; exact hmm.2.2) (fun j _ => pick_tok (by omega))
                             have Hcr := hide hcr
                             have HIa := hide hIa
                             clear hcr hIa
                             go_upto_region 50 with (go_at_call 13; refine Hcr.out.mono ?_; clear Hcr; rintro e w11 ⟨rfl, hk11, p11, hT11, htk11⟩; have HT11 := hide hT11; have HIa11 := hide (HIa.out.keep hk11); have Htk11 := hide htk11; clear hk11 hT11 htk11)
                             have hto := ktokens HT11.out.hp 0 (by omega)
                             rw [HT11.out.X, Htk11.out] at hto
                             have hto' : Calls Try.prog 26 #[.pointer (some ⟨p.g.X, 0, none⟩), .int .i64 0] w11 fun e w' => ∃ r, e = .returned (.tuple #[r, .int .i64 0]) ∧ IntsT w' r ii (fun j => pickI (fx j) c.vocab) ∧ Below w11.heap.size w11 w' := by
                               refine hto.mono ?_
                               rintro e w' ⟨r, rfl, hr, hb⟩
                               refine ⟨r, rfl, ?_, hb⟩
                               have e1 : lenO (some (natsOf ii (fun j => pickI (fx j) c.vocab))) = ii := natsOf_len _ _
                               rw [e1] at hr
                               exact hr.congr (fun j hj => natsOf_tk _ _ j hj (by have := kpick_lt (c := fx j) (n := c.vocab) (by omega); omega))
                             have Hto := hide hto'
                             clear hto hto'
                             go_wp2_with (first
                               | (go_at_call 26; refine Hto.out.mono ?_; clear Hto; rintro e w12 ⟨r12, rfl, hr12, hb12⟩; have HT12 := hide (HT11.out.below hb12); have Hsm := hide (ksame hr12 (HIa11.out.bel hb12)); clear hb12 hr12)
                               | (go_at_call 25; refine Hsm.out.mono ?_; clear Hsm; rintro e w13 ⟨rfl, hb13⟩; have HT13 := hide (HT12.out.below hb13); clear hb13))
                             go_ret
                             exact ⟨rfl, Hbw.out.trans (HT13.out.bel.mono Hbw.out.size)⟩
end Go.Proofs.Ytlmflighkkgikaa
