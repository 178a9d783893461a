import Derived.Test.YtlmflighkkgikaaP50
import Derived.Test.YtlmflighkkgikaaP51
import Derived.Test.YtlmflighkkgikaaP53

namespace Go.Proofs.Ytlmflighkkgikaa
open Go.RowKit
attribute [local go_sem ↓] Go.wp_at_zero Go.wp_at_succ
set_option maxRecDepth 100000 in
set_option maxHeartbeats 8000000 in
theorem shared_any (s : ShapeD) (hs : s.ok) (sl : Int) (h1 : kI sl) (v2 : Value) (n2 : Nat) (f2 : Nat → Int) (v3 : Value) (n3 : Nat) (f3 : Nat → Int) (w : World) (hI2 : Ints w v2 n2 f2) (hf2 : ∀ j, j < n2 → kI (f2 j)) (hI3 : Ints w v3 n3 f3) (hf3 : ∀ j, j < n3 → kI (f3 j)) :
   Calls Try.prog 4 #[.agg #[.int .i64 s.l, .int .i64 s.h, .int .i64 s.p, .int .i64 s.v, .int .i64 s.s], .int .i64 sl, v2, v3] w fun e w' => e = .returned (.bool true) ∧ Below w.heap.size w w' := by
 obtain ⟨i0, hi, hz0, hz1, hz2⟩ := info_parts Try.info_int
 have p1 := kpick_lt (c := sl) (n := 4) (by decide)
 obtain ⟨n1, en1⟩ : ∃ n1 : Nat, 1 + pickI sl 4 = n1 := ⟨(1 + pickI sl 4).toNat, by omega⟩
 have hn14 : 1 ≤ n1 ∧ n1 ≤ 4 := by omega
 have hcf := fun W => hkconfig_any s hs 32 n1 (by omega) (by omega) W
 have hpk := fun W => hkpick_any sl 4 W h1 (by decide) (by decide)
 obtain ⟨W0, hW0⟩ : ∃ W0, W0 = w.alloc (.cells #[.int .i64 s.l, .int .i64 s.h, .int .i64 s.p, .int .i64 s.v, .int .i64 s.s] 23) := ⟨_, rfl⟩
 have hb0 : Below w.heap.size w W0 := by rw [hW0]; exact (Below.refl _ _).alloc (Nat.le_refl _) _
 have hn0 : W0.heap[w.heap.size]? = some (.cells #[.int .i64 s.l, .int .i64 s.h, .int .i64 s.p, .int .i64 s.v, .int .i64 s.s] 23 (0, 0)) := by rw [hW0]; exact alloc_new _ _
 obtain ⟨x0, x1, x2, x3, x4⟩ := shape_cells hn0
 have Hcf := hide hcf
 have Hpk := hide hpk
 have HW0 := hide hW0
 have Hn0 := hide hn0
 have Hb0 := hide hb0
 clear hcf hpk hW0 hn0 hb0
 obtain ⟨c, ec⟩ : ∃ c, c = kcfg s 32 n1 := ⟨_, rfl⟩
 rw [← ec] at Hcf
 have hcok : c.ok := by rw [ec]; exact kcfg_ok hs (by omega) (by omega)
 have h32 : c.blocks = 32 := by rw [ec]; rfl
 have hcs : c.slots = n1 := by rw [ec]; rfl
 obtain ⟨vv1, vv2⟩ := hcok.vocab
 have hho := fun W => hkhoarded_any c hcok W
 unfold cfgV at hho
 have Hho := hide hho
 have Hcok := hide hcok
 have H32 := hide h32
 have Hcs := hide hcs
 have HI2 := hide hI2
 have HI3 := hide hI3
 have Hf2 := hide hf2
 have Hf3 := hide hf3
 clear ec hho hcok h32 hcs hI2 hI3 hf2 hf3
 go_enter Try.func4, Try.ntmps4
 go_upto_region 6 with (first
   | (go_at_call 10; rw [← HW0.out]; refine Calls_use (Hpk.out _) ?_; clear Hpk)
   | (go_at_call 9; refine (Hcf.out _).mono ?_; clear Hcf; rintro e wa ⟨rfl, hba⟩; obtain ⟨WC, hWC⟩ : ∃ WC, WC = wa.alloc (.cells #[.int .i64 c.blocks, .int .i64 c.slots, .int .i64 c.layers, .int .i64 c.heads, .int .i64 c.pairs, .int .i64 c.vocab, .int .i64 c.seed] 26) := ⟨_, rfl⟩; have hcb : WC.heap[wa.heap.size]? = some (.cells #[.int .i64 c.blocks, .int .i64 c.slots, .int .i64 c.layers, .int .i64 c.heads, .int .i64 c.pairs, .int .i64 c.vocab, .int .i64 c.seed] 26 (0, 0)) := (by rw [hWC]; exact alloc_new _ _); have hbc : Below W0.heap.size W0 WC := (by rw [hWC]; exact hba.alloc hba.size _); obtain ⟨c0, c1, c2, c3, c4, c5, c6⟩ := cfg_cells hcb; have HWC := hide hWC; have Hcb := hide hcb; have Hbc := hide hbc; clear hWC hcb hbc hba x0 x1 x2 x3 x4)
   | (go_at_call 11; rw [← HWC.out]; refine (Hho.out WC).mono ?_; rintro e w5 ⟨p, rfl, hp, epc, epL, epI, hb5⟩; clear c0 c1 c2 c3 c4 c5 c6; obtain ⟨c0, c1, c2, c3, c4, c5, c6⟩ := cfg_cells ((hb5.block _ (lt_blk Hcb.out)).trans Hcb.out); have Hp := hide hp; have Hb5 := hide hb5; have Hepc := hide epc; have HepL := hide epL; have HepI := hide epI; clear hp hb5 epc epL epI HWC))
 have HT0 : Hid (OneK WC.heap.size WC w5 p.g.X c p) := ⟨Hp.out, (by rw [HepL.out]; intro x hx; cases hx), Hb5.out, rfl, Hepc.out, Nat.le_refl _⟩
 have hbw : Below w.heap.size w WC := Hb0.out.trans (Hbc.out.mono Hb0.out.size)
 have hW5 : Below w.heap.size w w5 := hbw.trans (HT0.out.bel.mono hbw.size)
 have Hbw := hide hbw
 clear Hp Hb5 Hepc hbw
 have htok : ∀ (m : Nat) (v : Value) (n : Nat) (f : Nat → Int) (W : World), m ≤ 40 → Ints w v n f → (∀ j, j < n → kI (f j)) → Below w.heap.size w W → Calls Try.prog 12 #[v, .int .i64 c.vocab, .int .i64 m] W fun e w' => ∃ r, e = .returned r ∧ w'.ownsRow W.heap.size 3 1 r (min n m) ((List.range (min n m)).map fun j => .int .i64 (pickI (f j) c.vocab)) ∧ Below W.heap.size W w' := fun m v n f W hm hv hf hW =>
   hktokens_any n c.vocab m v f W (hv.below hW) (by omega) hm hf
 have HtokA := hide htok
 clear htok
 obtain ⟨c0, c1, c2, c3, c4, c5, c6⟩ := cfg_cells ((HT0.out.bel.block _ (lt_blk Hcb.out)).trans Hcb.out)
 clear c0 c1 c2 c3 c4 c6
 have htk := HtokA.out 12 v2 n2 f2 w5 (by omega) HI2.out Hf2.out hW5
 generalize hp0 : min n2 12 = k2 at htk
 have hk2 : k2 ≤ 12 := by omega
 have Htk := hide htk
 have HW5 := hide hW5
 clear htk hp0 hW5
 go_upto_region 7 with (first
   | (go_at_call 12; refine Htk.out.mono ?_; clear Htk; rintro e w7 ⟨r7, rfl, ho7, hb7⟩; have Hb7 := hide hb7; clear hb7)
   | (at_builtin; refine wpList_append_own _ rfl _ _ 24 rfl w5.heap.size 3 i0 (.int .i64 0) 1 8 Try.underlying24 hi hz0 hz1 hz2 rfl (by decide) r7 k2 _ rfl (ho7.alloc _) ⟨w7.heap.size, 0, none⟩ 1 1 [.int .i64 0] rfl rfl (one_new w7 _ _) (one_int _) (by unfold maxLen; omega) (by omega) (by simp; have := Hb7.out.size; omega) ?_; intro v8 w8 hown8 hgrow8 _))
 have hb8 : Below w5.heap.size w5 w8 := (Hb7.out.alloc Hb7.out.size _).grown hgrow8 (by simp; have := Hb7.out.size; omega) (fun g hg => (ho7.lt g hg).1)
 obtain ⟨FT, bt, ct, et, _, hct1, hct2, hIt, htT⟩ := snoc_row (x := 0) hown8 c.vocab (by omega) (fun j => pick_tok (by omega))
 obtain ⟨kt, hkt⟩ : ∃ kt, kt = k2 + 1 := ⟨_, rfl⟩
 rw [← hkt] at et hIt htT hct1
 subst et
 have hkt1 : 1 ≤ kt ∧ kt ≤ 13 := by omega
 clear hkt
 have HT8 := hide (HT0.out.below hb8)
 have HIt8 := hide hIt
 have HtT := hide htT
 have HW8 := hide (HW5.out.trans (hb8.mono HW5.out.size))
 clear hown8 hgrow8 ho7 Hb7 hb8 hIt htT HT0 c5 HW5
 obtain ⟨c0, c1, c2, c3, c4, c5, c6⟩ := cfg_cells ((HT8.out.bel.block _ (lt_blk Hcb.out)).trans Hcb.out)
 clear c0 c1 c2 c3 c4 c6
 obtain ⟨m5, hm5⟩ : ∃ m5, m5 = min n3 5 := ⟨_, rfl⟩
 have hm5l : m5 ≤ 5 := by omega
 obtain ⟨ku, hku⟩ : ∃ ku, kt + m5 = ku := ⟨_, rfl⟩
 have hku1 : 1 ≤ ku ∧ ku ≤ 18 ∧ kt ≤ ku := by omega
 have htk : ∀ W, Below w8.heap.size w8 W → Calls Try.prog 12 #[v3, .int .i64 c.vocab, .int .i64 5] W fun e w' => ∃ r, e = .returned r ∧ w'.ownsRow W.heap.size 3 1 r m5 ((List.range m5).map fun j => .int .i64 (pickI (f3 j) c.vocab)) ∧ Below W.heap.size W w' := fun W hW => by
   have := HtokA.out 5 v3 n3 f3 W (by omega) HI3.out Hf3.out (HW8.out.trans (hW.mono HW8.out.size))
   rw [← hm5] at this
   exact this
 have hsrc : ∀ W, Below w8.heap.size w8 W → ∀ j u, ((List.range kt).map fun i => Value.int .i64 (FT i))[j]? = some u → W.cell? ((⟨bt, 0, none⟩ : Addr).add j) = some u := fun W hW => src_at (HIt8.out.bel hW) (by omega)
 have Htk := hide htk
 have Hsrc := hide hsrc
 have Hm5 := hide hm5
 unfold maxLen at hct2
 clear htk hsrc hm5 HtokA
 have Hc5 := hide c5
 go_cut [13] from 24 (fun v W => ∃ (F : Nat → Int) (b cap : Nat), v = .slice (some ⟨b, 0, none⟩) ku cap ∧ ku ≤ cap ∧ cap ≤ maxLen ∧ IntsT W v ku F ∧ natsOf ku F = natsOf kt FT ++ natsOf m5 (fun j => pickI (f3 j) c.vocab) ∧ (∀ j, j < ku → ¬ badTok c.vocab (F j)) ∧ Below w8.heap.size w8 W)
 case first =>
   go_region_held3 (fun w' => w'.cell? ⟨wa.heap.size, 5, none⟩ = some (.int .i64 c.vocab)) (first | go_keep | exact e5) (first
     | (go_at_call 12; refine (Htk.out _ (by first | exact HBA.out | exact Below.refl _ _ | exact below_drewN (Below.refl _ _) _)).mono ?_; rintro e w9 ⟨r9, rfl, ho9, hb9⟩; have HB9 : Hid (Below w8.heap.size w8 w9) := (by first | exact HBA.out.trans (hb9.mono HBA.out.size) | exact below_of_drewN (k := 1) hb9); have e5 := (HB9.out.cell (p := ⟨wa.heap.size, 5, none⟩) (kcell_lt Hc5.out)).trans Hc5.out; have Hb9 := hide hb9; clear hb9)
     | (have own2 := owns_below hownA Hb9.out; refine step_append_row _ (by rfl) _ _ _ (by rfl) w8.heap.size 3 i0 (.int .i64 0) 8 Try.underlying24 hi hz0 hz1 hz2 rfl (.slice (some ⟨gA, 0, none⟩) kt cA) kt _ (by rfl) own2 (by omega) _ r9 m5 _ (by rfl) ho9 (ints_one _ _) (by unfold maxLen; omega) (by omega) HB9.out.size ?_; intro gB cB wB hownB hgrowB; have HBB : Hid (Below w8.heap.size w8 wB) := (HB9.out.grown hgrowB HB9.out.size (fun g hg => (own2.lt g hg).1)); have e5 := (HBB.out.cell (p := ⟨wa.heap.size, 5, none⟩) (kcell_lt Hc5.out)).trans Hc5.out)
     | (have own2 := ho9.kept hgrowA (.inr (by simp [Value.ownBlock])); refine step_append_row _ (by rfl) _ _ _ (by rfl) w8.heap.size 3 i0 (.int .i64 0) 8 Try.underlying24 hi hz0 hz1 hz2 rfl (.slice (some ⟨gA, 0, none⟩) kt cA) kt _ (by rfl) hownA (by omega) _ r9 m5 _ (by rfl) own2 (ints_one _ _) (by unfold maxLen; omega) (by omega) HBA.out.size ?_; intro gB cB wB hownB hgrowB; have HBB : Hid (Below w8.heap.size w8 wB) := (HBA.out.grown hgrowB HBA.out.size (fun g hg => (hownA.lt g hg).1)); have e5 := (HBB.out.cell (p := ⟨wa.heap.size, 5, none⟩) (kcell_lt Hc5.out)).trans Hc5.out)
     | (refine step_append_lies _ (by rfl) _ _ _ (by rfl) w8.heap.size 3 i0 (.int .i64 0) 1 8 Try.underlying24 hi hz0 hz1 hz2 rfl (by omega) (.slice none 0 0) 0 [] (by rfl) (World.ownsRow_nil _ _ _ _) ⟨bt, 0, none⟩ kt ct ((List.range kt).map fun i => .int .i64 (FT i)) (by rfl) (by simp) (Hsrc.out _ (by first | exact HB9.out | exact Below.refl _ _ | exact below_drewN (Below.refl _ _) _)) (ints_one _ _) (by omega) (by unfold maxLen; omega) (by omega) (by first | exact HB9.out.size | exact Nat.le_refl _) _ rfl ?_; intro gA cA wA hownA hgrowA hatA hltA; rw [Nat.zero_add, List.nil_append] at hownA; have HBA : Hid (Below w8.heap.size w8 wA) := (by first | exact HB9.out.grown hgrowA HB9.out.size (fun g hg => by simp [Value.ownBlock] at hg) | exact (below_drewN (Below.refl _ _) 1).grown hgrowA (Nat.le_refl _) (fun g hg => by simp [Value.ownBlock] at hg)); have e5 := (HBA.out.cell (p := ⟨wa.heap.size, 5, none⟩) (kcell_lt Hc5.out)).trans Hc5.out))
   all_goals go_wp2
   all_goals go_meet
   case rel =>
     have hN := two_rowsT hownB HtT.out (fun j _ => pick_tok (x := f3 j) (by omega))
     rw [hku] at hownB hN
     obtain ⟨F, hF, hN, hB⟩ := hN
     obtain ⟨_, ⟨_, q⟩ | ⟨g, cap, cur, q1, q0, _, q2, q3, _⟩⟩ := hownB
     · omega
     · injection q1 with e1 e2 e3
       subst e3
       exact ⟨F, gB, cB, rfl, q2, q3, hF, hN, hB, HBB.out⟩
 case rest =>
   obtain ⟨FU, bu, cu, rfl, hcu1, hcu2, hIu, hUe, huT, hbu⟩ := hcut
   unfold maxLen at hcu2
   have HTc := hide (HT8.out.below hbu)
   have HItc := hide (HIt8.out.bel hbu)
   have HIuc := hide hIu
   have HuT := hide huT
   obtain ⟨T, hT⟩ : ∃ T, T = natsOf kt FT := ⟨_, rfl⟩
   obtain ⟨U, hU⟩ : ∃ U, U = natsOf ku FU := ⟨_, rfl⟩
   have hTl : T.length = kt := by rw [hT, natsOf_len]
   have hUl : U.length = ku := by rw [hU, natsOf_len]
   have hTU : T <+: U := by rw [hU, hUe, hT]; exact List.prefix_append _ _
   obtain ⟨wT, hwT⟩ : ∃ u, u = kt / n1 := ⟨_, rfl⟩
   obtain ⟨wU, hwU⟩ : ∃ u, u = ku / n1 := ⟨_, rfl⟩
   have hdT : (kt : Int).tdiv n1 = wT := by rw [hwT, Int.tdiv_eq_ediv_of_nonneg (by omega)]; rfl
   have hdU : (ku : Int).tdiv n1 = wU := by rw [hwU, Int.tdiv_eq_ediv_of_nonneg (by omega)]; rfl
   have Hw64 : Hid (wrap64 (wT : Int) = wT) := by have := Nat.div_le_self kt n1; show wrap64 (wT : Int) = wT; unfold wrap64; omega
   have HwT := hide hwT
   have HwU := hide hwU
   have HdU := hide hdU
   have HTl := hide hTl
   have HUl := hide hUl
   have HTU := hide hTU
   have hnbT := nbOf_le (s := n1) (n := kt) hn14.1
   have hnbU := nbOf_le (s := n1) (n := ku) hn14.1
   have hcr := s_create HTc.out 0 (by omega) HItc.out.ints (by omega) (by omega) HtT.out (by rw [HepL.out]; rfl) (by rw [HepL.out]; simp) (s_room_first HTc.out HepL.out _ (by rw [natsOf_len, H32.out, Hcs.out]; omega))
   rw [← hT, HepL.out, HepI.out, Hcs.out, ils_nil] at hcr
   have HhT := hide hT
   have HhU := hide hU
   have HnbT := hide hnbT
   have HnbU := hide hnbU
   have Hcr := hide hcr
   clear hdU hwT hwU hcr hT hU hTl hUl hTU hnbT hnbU hbu hIu huT hUe HT8 HIt8 Hc5 Htk Hsrc Hm5 HI2 HI3 Hf2 Hf3 c5
   obtain ⟨W8, hw8⟩ : ∃ W8, W8 = wc := ⟨_, rfl⟩
   subst hw8
   go_upto_region 8 with fail
   go_cut [14] from 24 (fun v W => v = .int .i64 (wT : Int) ∧ W = W8)
   case first =>
     go_wp2
     go_meet
     case rel => exact ⟨by rw [Hw64.out], rfl⟩
   case rest =>
     obtain ⟨rfl, rfl⟩ := hcut
     clear hdT
     go_upto_region 10 with (go_at_call 13; refine Hcr.out.mono ?_; clear Hcr; rintro e w13 ⟨rfl, hk13, p13, tn1, hT13, hfr1, eL13, eI13⟩; have HT13 := hide hT13; have Hk13 := hide hk13; have Hfr1 := hide hfr1; have HL13 : Hid (p13.L = [(0, endKey n1 T tn1)]) := eL13; have HI13 := hide eI13; clear hT13 hk13 hfr1 eL13 eI13)
     have HIt13 := hide (HItc.out.keep (Hk13.out _ (by unfold mutT; decide)))
     have HIu13 := hide (HIuc.out.keep (Hk13.out _ (by unfold mutT; decide)))
     have hcr := s_create HT13.out 1 (by omega) HIu13.out.ints (by omega) (by omega) HuT.out (by rw [HL13.out, assoc_cons, assoc_nil]; simp) (by rw [HL13.out]; simp) (s_room_new HT13.out HL13.out _ T (List.prefix_refl _) (by rw [← HhU.out]; exact HTU.out) (by
       show nbOf c.slots T.length + _ ≤ _
       rw [natsOf_len, HTl.out, H32.out, Hcs.out]
       have h1 := HnbT.out
       have h2 := HnbU.out
       refine Nat.le_trans ?_ (Nat.le_add_right _ _)
       omega))
     rw [← HhU.out, HL13.out, HI13.out, Hcs.out, ils_nil] at hcr
     have Hcr := hide hcr
     clear hcr HTc HItc HIuc
     go_upto_region 11 with (go_at_call 13; refine Hcr.out.mono ?_; clear Hcr; rintro e w14 ⟨rfl, hk14, p14, tn2, hT14, hfr2, eL14, eI14⟩; have HT14 := hide hT14; have Hk14 := hide hk14; have Hfr2 : Hid (tn2 ≠ 0 ∧ (endKey n1 T tn1).2 ≠ tn2) := ⟨hfr2.1, hfr2.2 _ (by simp)⟩; have HL14 : Hid (p14.L = [(0, endKey n1 T tn1), (1, endKey n1 U tn2)]) := eL14; have HI14 := hide eI14; clear hT14 hk14 hfr2 eL14 eI14)
     have HIt14 := hide (HIt13.out.keep (Hk14.out _ (by unfold mutT; decide)))
     have hkT : keyOk n1 (endKey n1 T tn1) := endKey_ok n1 T tn1 Hfr1.out.1
     have hkU : keyOk n1 (endKey n1 U tn2) := endKey_ok n1 U tn2 Hfr2.out.1
     have hnz : ¬ (n1 : Int) = 0 := by omega
     obtain ⟨uT, huT⟩ : ∃ u, u = nbOf n1 kt := ⟨_, rfl⟩
     obtain ⟨uU, huU⟩ : ∃ u, u = nbOf n1 ku := ⟨_, rfl⟩
     have hw : wT ≤ wU ∧ wU ≤ ku ∧ wT ≤ uT := by
       rw [HwT.out, HwU.out, huT]
       exact ⟨Nat.div_le_div_right hku1.2.2, Nat.div_le_self _ _, div_le_nb hn14.1 (Nat.le_refl _)⟩
     have hus : nUsed n1 [endKey n1 T tn1, endKey n1 U tn2] + wT = uT + uU := by
       have hok : ∀ h ∈ [endKey n1 T tn1, endKey n1 U tn2], keyOk n1 h := fun h hh => by
         simp at hh
         rcases hh with rfl | rfl
         · exact hkT
         · exact hkU
       have e := used_two hn14.1 T U tn1 tn2 HTU.out Hfr2.out.1 Hfr2.out.2 hkT hkU
       rw [nUsed_perm n1 [endKey n1 T tn1, endKey n1 U tn2] [endKey n1 U tn2, endKey n1 T tn1] hn14.1 hok (fun h => by simp [or_comm])]
       rw [HUl.out, HTl.out, ← HwT.out, ← huT, ← huU] at e
       exact e
     obtain ⟨x1, hx1⟩ : ∃ x1, x1 = nUsed n1 [endKey n1 T tn1, endKey n1 U tn2] := ⟨_, rfl⟩
     rw [← hx1] at hus
     obtain ⟨x2, hx2⟩ : ∃ x2, x2 = wU - wT := ⟨_, rfl⟩
     have hx2w : x2 + wT = wU := by omega
     have hnT := HnbT.out
     have hnU := HnbU.out
     rw [← huT] at hnT
     rw [← huU] at hnU
     obtain ⟨fa1, hfa1⟩ : ∃ fa : Int, ((32 - 0 - x1 : Nat) : Int) = fa := ⟨_, rfl⟩
     have hst := s_stats HT14.out (i := 0) (u := x1) (ia := 0) (ua := x1) (by rw [HI14.out]; rfl) (by rw [HL14.out, Hcs.out, hx1]; rfl) H32.out hfa1 rfl rfl
     have Hst := hide hst
     have HkT := hide hkT
     have HkU := hide hkU
     have Hx1 := hide hx1
     have Hx2 := hide hx2
     have HuT' := hide huT
     have HuU' := hide huU
     clear hst hkT hkU hx1 hx2 huT huU hfa1 HIt13 HIu13 HT13
     go_upto_region 12 with (go_at_call 18; refine Hst.out.mono ?_; clear Hst; rintro e w15 ⟨rfl, hb15⟩; obtain ⟨WA, hWA⟩ : ∃ WA, WA = w15.alloc (.cells #[.int .i64 fa1, .int .i64 0, .int .i64 (x1 : Int)] 40) := ⟨_, rfl⟩; have hA1 : WA.heap[w15.heap.size]? = some (.cells #[.int .i64 fa1, .int .i64 0, .int .i64 (x1 : Int)] 40 (0, 0)) := (by rw [hWA]; exact alloc_new _ _); have hbA : Below w14.heap.size w14 WA := (by rw [hWA]; exact hb15.alloc hb15.size _); have HWA := hide hWA; have HA1 := hide hA1; have HbA := hide hbA; clear hb15 hWA hA1 hbA)
     rw [← HWA.out]
     have hfr := s_free (HT14.out.below HbA.out) 1 (by omega) (k0 := endKey n1 U tn2) (L1 := [(0, endKey n1 T tn1)]) (L2 := []) HL14.out (by rw [assoc_cons, assoc_nil]; simp)
     rw [HI14.out, Hcs.out] at hfr
     have Hfr := hide hfr
     clear hfr
     go_upto_region 13 with (go_at_call 19; refine Hfr.out.mono ?_; clear Hfr; rintro e w16 ⟨rfl, hk16, p16, hT16, eL16, eI16⟩; have HT16 := hide hT16; have Hk16 := hide hk16; have HL16 : Hid (p16.L = [(0, endKey n1 T tn1)]) := eL16; have HI16 : Hid (p16.il = leftOf n1 [endKey n1 T tn1] (endKey n1 U tn2)) := eI16; clear hT16 hk16 eL16 eI16)
     have HIt16 := hide ((HIt14.out.bel HbA.out).keep (Hk16.out _ (by unfold mutT; decide)))
     have HA16 := hide (Hk16.out _ (by unfold mutT; decide) _ _ _ HA1.out)
     have hl16 : p16.il.length = x2 := by
       rw [HI16.out, left_two hn14.1 T U tn1 tn2 HTU.out Hfr2.out.1 Hfr2.out.2, HUl.out, HTl.out, ← HwT.out, ← HwU.out, Hx2.out]
     have hu16 : nUsed c.slots (p16.L.map (·.2)) = uT := by
       rw [HL16.out, Hcs.out]
       show nUsed n1 [endKey n1 T tn1] = uT
       rw [nUsed_one hn14.1 _ HkT.out, HuT'.out]
       show nbOf n1 T.length = _
       rw [HTl.out]
     obtain ⟨fa2, hfa2⟩ : ∃ fa : Int, ((32 - x2 - uT : Nat) : Int) = fa := ⟨_, rfl⟩
     have hst := s_stats HT16.out hl16 hu16 H32.out hfa2 rfl rfl
     have Hst := hide hst
     have Hl16 := hide hl16
     clear hst hl16 hu16 hfa2
     go_upto_region 14 with (go_at_call 18; refine Hst.out.mono ?_; clear Hst; rintro e w17 ⟨rfl, hb17⟩; obtain ⟨WB, hWB⟩ : ∃ WB, WB = w17.alloc (.cells #[.int .i64 fa2, .int .i64 (x2 : Int), .int .i64 (uT : Int)] 40) := ⟨_, rfl⟩; have hB1 : WB.heap[w17.heap.size]? = some (.cells #[.int .i64 fa2, .int .i64 (x2 : Int), .int .i64 (uT : Int)] 40 (0, 0)) := (by rw [hWB]; exact alloc_new _ _); have hbB : Below w16.heap.size w16 WB := (by rw [hWB]; exact hb17.alloc hb17.size _); have HWB := hide hWB; have HB1 := hide hB1; have HbB := hide hbB; clear hb17 hWB hB1 hbB)
     rw [← HWB.out]
     have HAB := hide ((HbB.out.block _ (lt_blk HA16.out)).trans HA16.out)
     have hfr := s_free (HT16.out.below HbB.out) 0 (by omega) (k0 := endKey n1 T tn1) (L1 := []) (L2 := []) HL16.out rfl
     rw [Hcs.out] at hfr
     have Hfr := hide hfr
     clear hfr
     go_upto_region 15 with (go_at_call 19; refine Hfr.out.mono ?_; clear Hfr; rintro e w18 ⟨rfl, hk18, p18, hT18, eL18, eI18⟩; have HT18 := hide hT18; have Hk18 := hide hk18; have HL18 : Hid (p18.L = []) := eL18; have HI18 : Hid (p18.il = p16.il ++ leftOf n1 [] (endKey n1 T tn1)) := eI18; clear hT18 hk18 eL18 eI18)
     have HIt18 := hide ((HIt16.out.bel HbB.out).keep (Hk18.out _ (by unfold mutT; decide)))
     have HA18 := hide (Hk18.out _ (by unfold mutT; decide) _ _ _ HAB.out)
     have HB18 := hide (Hk18.out _ (by unfold mutT; decide) _ _ _ HB1.out)
     have hl18 : p18.il.length = wU := by
       rw [HI18.out, List.length_append, Hl16.out, left_one hn14.1 T tn1 Hfr1.out.1, HTl.out, ← HwT.out]
       exact hx2w
     have hu18 : nUsed c.slots (p18.L.map (·.2)) = 0 := by
       rw [HL18.out]
       rfl
     obtain ⟨fa3, hfa3⟩ : ∃ fa : Int, ((32 - wU - 0 : Nat) : Int) = fa := ⟨_, rfl⟩
     have hst := s_stats HT18.out (ua := 0) hl18 hu18 H32.out hfa3 rfl rfl
     have Hst := hide hst
     have Hl18 := hide hl18
     clear hst hl18 hu18 hfa3
     go_upto_region 16 with (go_at_call 18; refine Hst.out.mono ?_; clear Hst; rintro e w19 ⟨rfl, hb19⟩; obtain ⟨WC3, hWC3⟩ : ∃ WC3, WC3 = w19.alloc (.cells #[.int .i64 fa3, .int .i64 (wU : Int), .int .i64 0] 40) := ⟨_, rfl⟩; have hC1 : WC3.heap[w19.heap.size]? = some (.cells #[.int .i64 fa3, .int .i64 (wU : Int), .int .i64 0] 40 (0, 0)) := (by rw [hWC3]; exact alloc_new _ _); have hbC : Below w18.heap.size w18 WC3 := (by rw [hWC3]; exact hb19.alloc hb19.size _); have HWC3 := hide hWC3; have HC1 := hide hC1; have HbC := hide hbC; clear hb19 hWC3 hC1 hbC)
     rw [← HWC3.out]
     have HAC := hide ((HbC.out.block _ (lt_blk HA18.out)).trans HA18.out)
     have HBC := hide ((HbC.out.block _ (lt_blk HB18.out)).trans HB18.out)
     have HTC := hide (HT18.out.below HbC.out)
     have hil := s_again HTC.out HL18.out T (fun n h1 h2 h3 => by
       rw [HI18.out]
       refine List.mem_append.2 (.inr (left_mem hn14.1 T tn1 h1 (by rw [← Hcs.out]; exact h2) h3))) (by rw [Hl18.out, H32.out]; omega)
     have hcr := s_create HTC.out 2 (by omega) (HIt18.out.bel HbC.out).ints (by omega) (by omega) HtT.out (by rw [HL18.out]; rfl) (by rw [HL18.out]; simp) (s_room_first HTC.out HL18.out _ (by rw [natsOf_len, H32.out, Hcs.out]; have := HnbT.out; omega))
     rw [← HhT.out] at hcr
     have hila : (ilS p18.c ([], 0) (p18.L.map (·.2)) p18.il T).length = x2 := by
       rw [HTl.out, Hcs.out, ← HwT.out, Hl18.out] at hil
       omega
     generalize ilS p18.c ([], 0) (p18.L.map (·.2)) p18.il T = il4 at hcr hila
     rw [HL18.out, Hcs.out] at hcr
     have Hcr := hide hcr
     have Hila := hide hila
     clear hcr hila hil
     go_upto_region 17 with (go_at_call 13; refine Hcr.out.mono ?_; clear Hcr; rintro e w20 ⟨rfl, hk20, p20, tn3, hT20, hfr3, eL20, eI20⟩; have HT20 := hide hT20; have Hk20 := hide hk20; have Hfr3 := hide hfr3.1; have HL20 : Hid (p20.L = [(2, endKey n1 T tn3)]) := eL20; have HI20 := hide eI20; clear hT20 hk20 hfr3 eL20 eI20)
     have HA20 := hide (Hk20.out _ (by unfold mutT; decide) _ _ _ HAC.out)
     have HB20 := hide (Hk20.out _ (by unfold mutT; decide) _ _ _ HBC.out)
     have HC20 := hide (Hk20.out _ (by unfold mutT; decide) _ _ _ HC1.out)
     have hl20 : p20.il.length = x2 := by rw [HI20.out]; exact Hila.out
     have hu20 : nUsed c.slots (p20.L.map (·.2)) = uT := by
       rw [HL20.out, Hcs.out]
       show nUsed n1 [endKey n1 T tn3] = uT
       rw [nUsed_one hn14.1 _ (endKey_ok n1 T tn3 Hfr3.out), HuT'.out]
       show nbOf n1 T.length = _
       rw [HTl.out]
     obtain ⟨fa4, hfa4⟩ : ∃ fa : Int, ((32 - x2 - uT : Nat) : Int) = fa := ⟨_, rfl⟩
     have hst := s_stats HT20.out hl20 hu20 H32.out hfa4 rfl rfl
     have Hst := hide hst
     clear hst hl20 hu20 hfa4
     go_upto_region 18 with (go_at_call 18; refine Hst.out.mono ?_; clear Hst; rintro e w21 ⟨rfl, hb21⟩; obtain ⟨WD, hWD⟩ : ∃ WD, WD = w21.alloc (.cells #[.int .i64 fa4, .int .i64 (x2 : Int), .int .i64 (uT : Int)] 40) := ⟨_, rfl⟩; have hD1 : WD.heap[w21.heap.size]? = some (.cells #[.int .i64 fa4, .int .i64 (x2 : Int), .int .i64 (uT : Int)] 40 (0, 0)) := (by rw [hWD]; exact alloc_new _ _); have hbD : Below w20.heap.size w20 WD := (by rw [hWD]; exact hb21.alloc hb21.size _); have HWD := hide hWD; have HD1 := hide hD1; have HbD := hide hbD; clear hb21 hWD hD1 hbD)
     rw [← HWD.out]
     have HAD := hide ((HbD.out.block _ (lt_blk HA20.out)).trans HA20.out)
     have HBD := hide ((HbD.out.block _ (lt_blk HB20.out)).trans HB20.out)
     have HCD := hide ((HbD.out.block _ (lt_blk HC20.out)).trans HC20.out)
     have HTD := hide (HT20.out.below HbD.out)
     have hbk : ∀ (x : Int) (W : World), 0 ≤ x → x ≤ 100 → Calls Try.prog 20 #[.int .i64 x, .int .i64 n1] W fun e w' => e = .returned (.int .i64 (nbI n1 x)) ∧ w' = W := fun x W h0 h1 => by
       obtain ⟨m, rfl⟩ : ∃ m : Nat, x = m := ⟨x.toNat, by omega⟩
       rw [nbI_cast]
       exact hkblocks_any m n1 W (by omega) hn14
     have Hbk := hide hbk
     have hbT : nbI n1 (kt : Int) = uT := by rw [nbI_cast, HuT'.out]
     have hbU : nbI n1 (ku : Int) = uU := by rw [nbI_cast, HuU'.out]
     obtain ⟨y0, y1, y2⟩ := stat3_cells HAD.out
     clear y0 hbk
     go_upto_region 20 with fail
     go_cut [108] from 24 (fun v W => v = .bool false ∧ ∃ n, W = WD.drewN n)
     case first =>
       have e1 : ((x1 : Int) != (uT : Int) + uU - wT) = false := by
         have : (x1 : Int) = (uT : Int) + uU - wT := by omega
         simp [this]
       go_quiet ((go_at_call 20; exact Calls.quiet_of_same (Hbk.out _ _ (by omega) (by omega))))
       go_wp2
       go_meet
       case rel => exact ⟨rfl, _, rfl⟩
     case rest =>
       obtain ⟨rfl, n22, ewf⟩ := hcut
       obtain ⟨WF, hwf⟩ : ∃ WF, WF = wc := ⟨_, rfl⟩
       subst hwf
       have hbF : Below WD.heap.size WD WF := by rw [ewf]; exact below_drewN (Below.refl _ _) _
       have HBF := hide ((hbF.block _ (lt_blk HBD.out)).trans HBD.out)
       have HCF := hide ((hbF.block _ (lt_blk HCD.out)).trans HCD.out)
       have HDF := hide ((hbF.block _ (lt_blk HD1.out)).trans HD1.out)
       have HTF := hide (HTD.out.below hbF)
       clear y1 y2 hbF ewf
       obtain ⟨y0, y1, y2⟩ := stat3_cells HBF.out
       obtain ⟨z0, z1, z2⟩ := stat3_cells HCF.out
       clear y0 z0
       go_upto_region 22 with fail
       go_cut [140] from 24 (fun v W => v = .bool false ∧ ∃ n, W = WF.drewN n)
       case first =>
         have hdU := HdU.out
         have e2 : ((uT : Int) != uT) = false := by simp
         have e3 : ((x2 : Int) != (wU : Int) - wT) = false := by
           have : (x2 : Int) = (wU : Int) - wT := by omega
           simp [this]
         have e4 : ((wU : Int) != wU) = false := by simp
         go_quiet ((go_at_call 20; exact Calls.quiet_of_same (Hbk.out _ _ (by omega) (by omega))))
         go_wp2
         go_meet
         case rel => exact ⟨rfl, _, rfl⟩
       case rest =>
         obtain ⟨rfl, n23, ewg⟩ := hcut
         obtain ⟨WG, hwg⟩ : ∃ WG, WG = wc := ⟨_, rfl⟩
         subst hwg
         have hbG : Below WF.heap.size WF WG := by rw [ewg]; exact below_drewN (Below.refl _ _) _
         have HDG := hide ((hbG.block _ (lt_blk HDF.out)).trans HDF.out)
         have HTG := hide (HTF.out.below hbG)
         clear y1 y2 z1 z2 hbG ewg
         obtain ⟨y0, y1, y2⟩ := stat3_cells HDG.out
         clear y0
         go_upto_region 24 with fail
         go_cut [8] from 24 (fun v W => v = .bool true ∧ ∃ n, W = WG.drewN n)
         case first =>
           have hdU := HdU.out
           have e3 : (x2 : Int) = (wU : Int) - wT := by omega
           go_quiet ((go_at_call 20; exact Calls.quiet_of_same (Hbk.out _ _ (by omega) (by omega))))
           go_wp2
           go_meet
           case rel => exact ⟨rfl, _, rfl⟩
         case rest =>
           obtain ⟨rfl, n24, ewh⟩ := hcut
           go_wp2
           go_ret
           refine ⟨rfl, ?_⟩
           rw [ewh]
           exact below_drewN (Hbw.out.trans (HTG.out.bel.mono Hbw.out.size)) _
end Go.Proofs.Ytlmflighkkgikaa
