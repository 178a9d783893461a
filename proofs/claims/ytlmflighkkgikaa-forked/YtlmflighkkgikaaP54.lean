import Derived.Deep.CutRange
import Derived.BigQuiet
import Derived.Test.YtlmflighkkgikaaP24
import Derived.Test.YtlmflighkkgikaaP47
import Derived.Test.YtlmflighkkgikaaP49
import Derived.Test.YtlmflighkkgikaaP53

namespace Go.Proofs.Ytlmflighkkgikaa
open Go.RowKit
attribute [local go_sem ↓] Go.wp_at_zero Go.wp_at_succ
theorem nb_succ {s : Nat} (hs : 1 ≤ s) (n : Nat) : nbOf s (n + 1) = n / s + 1 := by
 unfold nbOf
 rw [show n + 1 + s - 1 = n + s by omega, Nat.add_div_right _ (by omega)]
theorem nb_add_le {s : Nat} (hs : 1 ≤ s) (a b : Nat) : nbOf s (a + b) ≤ a / s + b + 2 := by
 unfold nbOf
 refine Nat.div_le_of_le_mul ?_
 have h1 := Nat.div_add_mod a s
 have h2 := Nat.mod_lt a (show s > 0 by omega)
 have h3 : b ≤ s * b := Nat.le_mul_of_pos_left b (by omega)
 rw [Nat.mul_add, Nat.mul_add]
 omega
theorem natsOf_list (l : List Int) : natsOf l.length (fun j => l.getD j 0) = l.map Int.toNat := by
 unfold natsOf
 refine List.ext_getElem? (fun i => ?_)
 rw [List.getElem?_map, List.getElem?_map]
 by_cases hi : i < l.length
 · rw [List.getElem?_range hi, List.getElem?_eq_getElem hi]
   simp [List.getD_eq_getElem?_getD, List.getElem?_eq_getElem hi]
 · rw [List.getElem?_eq_none (by simp; omega), List.getElem?_eq_none (by omega)]
   rfl
theorem natsOf_two (a b : Nat) (f g : Nat → Int) : natsOf ((List.range a).map f ++ (List.range b).map g).length (fun j => ((List.range a).map f ++ (List.range b).map g).getD j 0) = natsOf a f ++ natsOf b g := by
 rw [natsOf_list, List.map_append, List.map_map, List.map_map]
 rfl
theorem stat3_cells {w : World} {b : Nat} {a0 a1 a2 : Value} {t : TypeId} {fr : Nat × Nat} (h : w.heap[b]? = some (.cells #[a0, a1, a2] t fr)) :
   w.cell? ⟨b, 0, none⟩ = some a0 ∧ w.cell? ⟨b, 1, none⟩ = some a1 ∧ w.cell? ⟨b, 2, none⟩ = some a2 := by
 refine ⟨?_, ?_, ?_⟩ <;> (rw [cell_blk h]; rfl)
theorem src_at {w : World} {b off n cap : Nat} {g : Nat → Int} (h : IntsT w (.slice (some ⟨b, off, none⟩) n cap) n g) (hn : 0 < n) : ∀ j u, ((List.range n).map fun i => Value.int .i64 (g i))[j]? = some u → w.cell? ((⟨b, off, none⟩ : Addr).add j) = some u := by
 obtain ⟨b', off', cap', e, _, hc⟩ := h.src hn
 injection e with e1 _ _
 injection e1 with e1
 injection e1 with e1 e2 _
 subst e1 e2
 exact hc
theorem tkM_two {a b : Key} (k : Int) : tkM [(0, a), (1, b)] k = if k = 0 then some a.1 else if k = 1 then some b.1 else none := by
 unfold tkM
 rw [assoc_cons, assoc_cons, assoc_nil]
 by_cases h0 : k = 0
 · rw [if_pos h0, if_pos h0.symm]; rfl
 · rw [if_neg h0, if_neg (fun e => h0 e.symm)]
   by_cases h1 : k = 1
   · rw [if_pos h1, if_pos h1.symm]; rfl
   · rw [if_neg h1, if_neg (fun e => h1 e.symm)]; rfl
theorem two_rows {w : World} {base : Nat} {v : Value} {a b vo : Nat} {f g : Nat → Int} (h : w.ownsRow base 3 1 v (0 + a + b) ([] ++ ((List.range a).map fun i => .int .i64 (f i)) ++ (List.range b).map fun i => .int .i64 (g i))) (hf : ∀ j, j < a → ¬ badTok vo (f j)) (hg : ∀ j, j < b → ¬ badTok vo (g j)) :
   ∃ F : Nat → Int, Ints w v (a + b) F ∧ natsOf (a + b) F = natsOf a f ++ natsOf b g ∧ ∀ j, j < a + b → ¬ badTok vo (F j) := by
 have hl : ((List.range a).map f ++ (List.range b).map g).length = a + b := by simp
 have e : iv ((List.range a).map f ++ (List.range b).map g) = [] ++ ((List.range a).map fun i => .int .i64 (f i)) ++ (List.range b).map fun i => .int .i64 (g i) := by rw [iv_app, iv_range, iv_range]; rfl
 have h' : w.ownsRow base 3 1 v ((List.range a).map f ++ (List.range b).map g).length (iv ((List.range a).map f ++ (List.range b).map g)) := by rw [hl, e]; rw [Nat.zero_add] at h; exact h
 have hi := (ints_of_iv h').ints
 have hn := natsOf_two a b f g
 rw [hl] at hi hn
 refine ⟨_, hi, hn, fun j hj => ?_⟩
 rw [List.getD_eq_getElem?_getD, List.getElem?_append]
 by_cases h1 : j < a
 · rw [if_pos (by simpa using h1), List.getElem?_map, List.getElem?_range h1]
   exact hf j h1
 · rw [if_neg (by simpa using h1), List.getElem?_map]
   have e1 : ((List.range a).map f).length = a := by simp
   rw [e1, List.getElem?_range (by omega)]
   exact hg _ (by omega)
theorem snoc_row {w : World} {base : Nat} {v : Value} {n0 x : Nat} {F0 : Nat → Int} (h : w.ownsRow base 3 1 v (n0 + 1) (((List.range n0).map fun j => .int .i64 (F0 j)) ++ [.int .i64 (x : Int)])) (vo : Nat) (hx : x < vo) (ht : ∀ j, ¬ badTok vo (F0 j)) :
   ∃ (F : Nat → Int) (b cap : Nat), v = .slice (some ⟨b, 0, none⟩) (n0 + 1) cap ∧ base ≤ b ∧ n0 + 1 ≤ cap ∧ cap ≤ maxLen ∧ IntsT w v (n0 + 1) F ∧ ∀ j, j < n0 + 1 → ¬ badTok vo (F j) := by
 have hF : w.ownsRow base 3 1 v (n0 + 1) ((List.range (n0 + 1)).map fun j => .int .i64 (if j = n0 then (x : Int) else F0 j)) := by
   have e : ((List.range (n0 + 1)).map fun j => Value.int .i64 (if j = n0 then (x : Int) else F0 j)) = ((List.range n0).map fun j => Value.int .i64 (F0 j)) ++ [.int .i64 (x : Int)] := by
     rw [List.range_succ, List.map_append]
     congr 1
     · exact List.map_congr_left (fun j hj => by rw [if_neg (by have := List.mem_range.1 hj; omega)])
     · simp
   rw [e]
   exact h
 have hI := IntsT.of_owns hF
 obtain ⟨_, ⟨_, q⟩ | ⟨g, cap, cur, q1, q0, _, q2, q3, _⟩⟩ := hF
 · omega
 · refine ⟨_, g, cap, q1, q0, q2, q3, hI, fun j _ => ?_⟩
   by_cases e : j = n0
   · simp only [if_pos e]; unfold badTok; omega
   · simp only [if_neg e]; exact ht j
set_option maxRecDepth 100000 in
set_option maxHeartbeats 8000000 in
theorem forked_any (s : ShapeD) (hs : s.ok) (sl : Int) (h1 : kI sl) (v2 : Value) (n2 : Nat) (f2 : Nat → Int) (v3 : Value) (n3 : Nat) (f3 : Nat → Int) (v4 : Value) (n4 : Nat) (f4 : Nat → Int) (w : World) (hI2 : Ints w v2 n2 f2) (hf2 : ∀ j, j < n2 → kI (f2 j)) (hI3 : Ints w v3 n3 f3) (hf3 : ∀ j, j < n3 → kI (f3 j)) (hI4 : Ints w v4 n4 f4) (hf4 : ∀ j, j < n4 → kI (f4 j)) :
   Calls Try.prog 5 #[.agg #[.int .i64 s.l, .int .i64 s.h, .int .i64 s.p, .int .i64 s.v, .int .i64 s.s], .int .i64 sl, v2, v3, v4] w fun e w' => e = .returned (.bool true) ∧ Below w.heap.size w w' := by
 obtain ⟨i0, hi, hz0, hz1, hz2⟩ := info_parts Try.info_int
 have p1 := kpick_lt (c := sl) (n := 4) (by decide)
 obtain ⟨n1, en1⟩ : ∃ n1 : Nat, 1 + pickI sl 4 = n1 := ⟨(1 + pickI sl 4).toNat, by omega⟩
 have hn14 : 1 ≤ n1 ∧ n1 ≤ 4 := by omega
 have hcf := fun W => hkconfig_any s hs 32 n1 (by omega) (by omega) W
 have hpk := fun W => hkpick_any sl 4 W h1 (by decide) (by decide)
 obtain ⟨W0, hW0⟩ : ∃ W0, W0 = w.alloc (.cells #[.int .i64 s.l, .int .i64 s.h, .int .i64 s.p, .int .i64 s.v, .int .i64 s.s] 23) := ⟨_, rfl⟩
 have hb0 : Below w.heap.size w W0 := by rw [hW0]; exact (Below.refl _ _).alloc (Nat.le_refl _) _
 have hn0 : W0.heap[w.heap.size]? = some (.cells #[.int .i64 s.l, .int .i64 s.h, .int .i64 s.p, .int .i64 s.v, .int .i64 s.s] 23 (0, 0)) := by rw [hW0]; exact alloc_new _ _
 obtain ⟨x0, x1, x2, x3, x4⟩ := shape_cells hn0
 have Hcf := hide hcf
 have Hpk := hide hpk
 have HW0 := hide hW0
 have Hn0 := hide hn0
 have Hb0 := hide hb0
 clear hcf hpk hW0 hn0 hb0
 obtain ⟨c, ec⟩ : ∃ c, c = kcfg s 32 n1 := ⟨_, rfl⟩
 rw [← ec] at Hcf
 have hcok : c.ok := by rw [ec]; exact kcfg_ok hs (by omega) (by omega)
 have h32 : c.blocks = 32 := by rw [ec]; rfl
 have hcs : c.slots = n1 := by rw [ec]; rfl
 obtain ⟨vv1, vv2⟩ := hcok.vocab
 have hho := fun W => hkhoarded_any c hcok W
 unfold cfgV at hho
 have Hho := hide hho
 have Hcok := hide hcok
 have H32 := hide h32
 have Hcs := hide hcs
 have HI2 := hide hI2
 have HI3 := hide hI3
 have HI4 := hide hI4
 have Hf2 := hide hf2
 have Hf3 := hide hf3
 have Hf4 := hide hf4
 clear ec hho hcok h32 hcs hI2 hI3 hI4 hf2 hf3 hf4
 go_enter Try.func5, Try.ntmps5
 go_upto_region 7 with (first
   | (go_at_call 10; rw [← HW0.out]; refine Calls_use (Hpk.out _) ?_; clear Hpk)
   | (go_at_call 9; refine (Hcf.out _).mono ?_; clear Hcf; rintro e wa ⟨rfl, hba⟩; obtain ⟨WC, hWC⟩ : ∃ WC, WC = wa.alloc (.cells #[.int .i64 c.blocks, .int .i64 c.slots, .int .i64 c.layers, .int .i64 c.heads, .int .i64 c.pairs, .int .i64 c.vocab, .int .i64 c.seed] 26) := ⟨_, rfl⟩; have hcb : WC.heap[wa.heap.size]? = some (.cells #[.int .i64 c.blocks, .int .i64 c.slots, .int .i64 c.layers, .int .i64 c.heads, .int .i64 c.pairs, .int .i64 c.vocab, .int .i64 c.seed] 26 (0, 0)) := (by rw [hWC]; exact alloc_new _ _); have hbc : Below W0.heap.size W0 WC := (by rw [hWC]; exact hba.alloc hba.size _); obtain ⟨c0, c1, c2, c3, c4, c5, c6⟩ := cfg_cells hcb; have HWC := hide hWC; have Hcb := hide hcb; have Hbc := hide hbc; clear hWC hcb hbc hba x0 x1 x2 x3 x4)
   | (go_at_call 11; rw [← HWC.out]; refine (Hho.out WC).mono ?_; rintro e w5 ⟨p, rfl, hp, epc, epL, epI, hb5⟩; clear c0 c1 c2 c3 c4 c5 c6; obtain ⟨c0, c1, c2, c3, c4, c5, c6⟩ := cfg_cells ((hb5.block _ (lt_blk Hcb.out)).trans Hcb.out); have Hp := hide hp; have Hb5 := hide hb5; have Hepc := hide epc; have HepL := hide epL; have HepI := hide epI; clear hp hb5 epc epL epI HWC)
   | (go_at_call 11; refine (Hho.out w5).mono ?_; clear Hho; rintro e w6 ⟨q, rfl, hq, eqc, eqL, eqI, hb6⟩; have Hq := hide hq; have Hb6 := hide hb6; have Heqc := hide eqc; have HeqL := hide eqL; have HeqI := hide eqI; clear hq hb6 eqc eqL eqI c0 c1 c2 c3 c4 c5 c6))
 have HT0 : Hid (DuoG WC.heap.size WC w6 p.g.X q.g.X c p q) := ⟨Hp.out.below Hb6.out, Hq.out.low Hb5.out.size, fun k hk hk' => (by have h1 := (Hp.out.lo k hk).2; have h2 := (Hq.out.lo k hk').1; omega), Hb5.out.trans (Hb6.out.mono Hb5.out.size), rfl, rfl, Hepc.out, Heqc.out, Nat.le_refl _⟩
 have hbw : Below w.heap.size w WC := Hb0.out.trans (Hbc.out.mono Hb0.out.size)
 have hW6 : Below w.heap.size w w6 := hbw.trans (HT0.out.bel.mono hbw.size)
 have Hbw := hide hbw
 clear Hp Hq Hb5 Hb6 Hepc Heqc hbw
 have htok : ∀ (m : Nat) (v : Value) (n : Nat) (f : Nat → Int) (W : World), m ≤ 40 → Ints w v n f → (∀ j, j < n → kI (f j)) → Below w.heap.size w W → Calls Try.prog 12 #[v, .int .i64 c.vocab, .int .i64 m] W fun e w' => ∃ r, e = .returned r ∧ w'.ownsRow W.heap.size 3 1 r (min n m) ((List.range (min n m)).map fun j => .int .i64 (pickI (f j) c.vocab)) ∧ Below W.heap.size W w' := fun m v n f W hm hv hf hW =>
   hktokens_any n c.vocab m v f W (hv.below hW) (by omega) hm hf
 have HtokA := hide htok
 clear htok
 obtain ⟨c0, c1, c2, c3, c4, c5, c6⟩ := cfg_cells ((HT0.out.bel.block _ (lt_blk Hcb.out)).trans Hcb.out)
 clear c0 c1 c2 c3 c4 c6
 have htk := HtokA.out 12 v2 n2 f2 w6 (by omega) HI2.out Hf2.out hW6
 generalize hp0 : min n2 12 = k2 at htk
 have hk2 : k2 ≤ 12 := by omega
 have Htk := hide htk
 have HW6 := hide hW6
 clear htk hp0 hW6
 go_upto_region 9 with (first
   | (go_at_call 12; refine Htk.out.mono ?_; clear Htk; rintro e w7 ⟨r7, rfl, ho7, hb7⟩; have Hb7 := hide hb7; clear hb7)
   | (at_builtin; refine wpList_append_own _ rfl _ _ 24 rfl w6.heap.size 3 i0 (.int .i64 0) 1 8 Try.underlying24 hi hz0 hz1 hz2 rfl (by decide) r7 k2 _ rfl (ho7.alloc _) ⟨w7.heap.size, 0, none⟩ 1 1 [.int .i64 0] rfl rfl (one_new w7 _ _) (one_int _) (by unfold maxLen; omega) (by omega) (by simp; have := Hb7.out.size; omega) ?_; intro v8 w8 hown8 hgrow8 _))
 have hb8 : Below w6.heap.size w6 w8 := (Hb7.out.alloc Hb7.out.size _).grown hgrow8 (by simp; have := Hb7.out.size; omega) (fun g hg => (ho7.lt g hg).1)
 obtain ⟨FT, bt, ct, et, _, hct1, hct2, hIt, htT⟩ := snoc_row (x := 0) hown8 c.vocab (by omega) (fun j => pick_tok (by omega))
 subst et
 have HT8 := hide (HT0.out.below hb8)
 have HIt8 := hide hIt
 have HtT := hide htT
 have HW8 := hide (HW6.out.trans (hb8.mono HW6.out.size))
 clear hown8 hgrow8 ho7 Hb7 hb8 hIt htT HT0 c5 HW6
 obtain ⟨c0, c1, c2, c3, c4, c5, c6⟩ := cfg_cells ((HT8.out.bel.block _ (lt_blk Hcb.out)).trans Hcb.out)
 clear c0 c1 c2 c3 c4 c6
 have htk := HtokA.out 6 v3 n3 f3 w8 (by omega) HI3.out Hf3.out HW8.out
 generalize hp0 : min n3 6 = k3 at htk
 have hk3 : k3 ≤ 6 := by omega
 have Htk := hide htk
 clear htk hp0
 go_upto_region 10 with (first
   | (go_at_call 12; refine Htk.out.mono ?_; clear Htk; rintro e w9 ⟨r9, rfl, ho9, hb9⟩; have Hb9 := hide hb9; clear hb9)
   | (at_builtin; refine wpList_append_own _ rfl _ _ 24 rfl w8.heap.size 3 i0 (.int .i64 0) 1 8 Try.underlying24 hi hz0 hz1 hz2 rfl (by decide) r9 k3 _ rfl (ho9.alloc _) ⟨w9.heap.size, 0, none⟩ 1 1 [.int .i64 0] rfl rfl (one_new w9 _ _) (one_int _) (by unfold maxLen; omega) (by omega) (by simp; have := Hb9.out.size; omega) ?_; intro v10 w10 hown10 hgrow10 _))
 have hb10 : Below w8.heap.size w8 w10 := (Hb9.out.alloc Hb9.out.size _).grown hgrow10 (by simp; have := Hb9.out.size; omega) (fun g hg => (ho9.lt g hg).1)
 obtain ⟨FM, bm, cm, em, _, hcm1, hcm2, hIm, hmT⟩ := snoc_row (x := 0) hown10 c.vocab (by omega) (fun j => pick_tok (by omega))
 subst em
 have HT10 := hide (HT8.out.below hb10)
 have HIt10 := hide (HIt8.out.bel hb10)
 have HIm10 := hide hIm
 have HmT := hide hmT
 have HW10 := hide (HW8.out.trans (hb10.mono HW8.out.size))
 clear hown10 hgrow10 ho9 Hb9 hb10 hIm hmT HT8 c5 HW8 HIt8
 obtain ⟨c0, c1, c2, c3, c4, c5, c6⟩ := cfg_cells ((HT10.out.bel.block _ (lt_blk Hcb.out)).trans Hcb.out)
 clear c0 c1 c2 c3 c4 c6
 have htk := HtokA.out 6 v4 n4 f4 w10 (by omega) HI4.out Hf4.out HW10.out
 generalize hp0 : min n4 6 = k4 at htk
 have hk4 : k4 ≤ 6 := by omega
 have Htk := hide htk
 clear htk hp0
 go_upto_region 11 with (first
   | (go_at_call 12; refine Htk.out.mono ?_; clear Htk; rintro e w11 ⟨r11, rfl, ho11, hb11⟩; have Hb11 := hide hb11; clear hb11)
   | (at_builtin; refine wpList_append_own _ rfl _ _ 24 rfl w10.heap.size 3 i0 (.int .i64 0) 1 8 Try.underlying24 hi hz0 hz1 hz2 rfl (by decide) r11 k4 _ rfl (ho11.alloc _) ⟨w11.heap.size, 0, none⟩ 1 1 [.int .i64 1] rfl rfl (one_new w11 _ _) (one_int _) (by unfold maxLen; omega) (by omega) (by simp; have := Hb11.out.size; omega) ?_; intro v12 w12 hown12 hgrow12 _))
 have hb12 : Below w10.heap.size w10 w12 := (Hb11.out.alloc Hb11.out.size _).grown hgrow12 (by simp; have := Hb11.out.size; omega) (fun g hg => (ho11.lt g hg).1)
 obtain ⟨FO, bo, co, eo, _, hco1, hco2, hIo, hoT⟩ := snoc_row (x := 1) hown12 c.vocab (by omega) (fun j => pick_tok (by omega))
 subst eo
 have HT12 := hide (HT10.out.below hb12)
 have HIt := hide (HIt10.out.bel hb12)
 have HIm := hide (HIm10.out.bel hb12)
 have HIo := hide hIo
 have HoT := hide hoT
 clear hown12 hgrow12 ho11 Hb11 hb12 hIo hoT HT10 c5 HW10 HIt10 HIm10 HtokA HI2 HI3 HI4 Hf2 Hf3 Hf4
 unfold maxLen at hct2 hcm2 hco2
 obtain ⟨T, hT⟩ : ∃ T, T = natsOf (k2 + 1) FT := ⟨_, rfl⟩
 have hTl : T.length = k2 + 1 := by rw [hT, natsOf_len]
 have hnbT := nbOf_le (s := n1) (n := k2 + 1) hn14.1
 have hcr := g_create HT12.out 0 (by omega) HIt.out.ints (by omega) (by omega) HtT.out (by rw [HepL.out]; rfl) (by rw [HepL.out]; simp) (g_room_first HT12.out HepL.out _ (by rw [natsOf_len, H32.out, Hcs.out]; omega))
 rw [← hT, HepL.out, HepI.out, Hcs.out, ils_nil] at hcr
 obtain ⟨u1, hu1⟩ : ∃ u1, u1 = nbOf n1 (k2 + 1) := ⟨_, rfl⟩
 rw [← hu1] at hnbT
 have Hcr := hide hcr
 have HhT := hide hT
 have HTl := hide hTl
 have Hu1 := hide hu1
 clear hcr hT hTl hu1
 go_upto_region 12 with (go_at_call 13; refine Hcr.out.mono ?_; clear Hcr; rintro e w13 ⟨rfl, hk13, p13, tn1, hT13, hfr1, eL13, eI13⟩; have HT13 := hide hT13; have Hk13 := hide hk13; have Hfr1 := hide hfr1; have HL13 : Hid (p13.L = [(0, endKey n1 T tn1)]) := eL13; have HI13 := hide eI13; clear hT13 hk13 hfr1 eL13 eI13)
 have hkt : keyOk n1 (endKey n1 T tn1) := endKey_ok n1 T tn1 Hfr1.out.1
 have hus : nUsed c.slots (p13.L.map (·.2)) = u1 := by
   rw [HL13.out, Hcs.out]
   show nUsed n1 [endKey n1 T tn1] = u1
   rw [nUsed_one hn14.1 _ hkt, Hu1.out]
   show nbOf n1 T.length = _
   rw [HTl.out]
 obtain ⟨fa, hfa⟩ : ∃ fa : Int, ((32 - u1 : Nat) : Int) = fa := ⟨_, rfl⟩
 have Hfa := hide hfa
 have hst := g_stats HT13.out hfa rfl HI13.out hus H32.out
 clear hfa
 have Hst := hide hst
 have Hkt := hide hkt
 clear hst hkt hus
 go_upto_region 13 with (go_at_call 18; refine Hst.out.mono ?_; clear Hst; rintro e w14 ⟨rfl, hb14⟩; obtain ⟨WA, hWA⟩ : ∃ WA, WA = w14.alloc (.cells #[.int .i64 fa, .int .i64 0, .int .i64 u1] 40) := ⟨_, rfl⟩; have hA1 : WA.heap[w14.heap.size]? = some (.cells #[.int .i64 fa, .int .i64 0, .int .i64 u1] 40 (0, 0)) := (by rw [hWA]; exact alloc_new _ _); have hbA : Below w13.heap.size w13 WA := (by rw [hWA]; exact hb14.alloc hb14.size _); have HWA := hide hWA; have HA1 := hide hA1; have HbA := hide hbA; clear hb14 hWA hA1 hbA)
 rw [← HWA.out]
 have hfk := g_fork (HT13.out.below HbA.out) HL13.out
 have Hfk := hide hfk
 clear hfk
 go_upto_region 14 with (go_at_call 21; refine Hfk.out.mono ?_; clear Hfk; rintro e w15 ⟨rfl, hk15, p15, hT15, eL15, eI15⟩; have HT15 := hide hT15; have Hk15 := hide hk15; have HL15 := hide eL15; have HI15 := hide (eI15.trans HI13.out); clear hT15 hk15 eL15 eI15)
 have hus : nUsed c.slots (p15.L.map (·.2)) = u1 := by
   rw [HL15.out, Hcs.out]
   show nUsed n1 [endKey n1 T tn1, endKey n1 T tn1] = u1
   rw [nUsed_perm n1 [endKey n1 T tn1, endKey n1 T tn1] [endKey n1 T tn1] hn14.1 (fun h hh => by simp at hh; rw [hh]; exact Hkt.out) (fun h => by simp), nUsed_one hn14.1 _ Hkt.out, Hu1.out]
   show nbOf n1 T.length = _
   rw [HTl.out]
 have hst := g_stats HT15.out Hfa.out rfl HI15.out hus H32.out
 have Hst := hide hst
 clear hst hus
 go_upto_region 15 with (go_at_call 18; refine Hst.out.mono ?_; clear Hst; rintro e w16 ⟨rfl, hb16⟩; obtain ⟨WD, hWD⟩ : ∃ WD, WD = w16.alloc (.cells #[.int .i64 fa, .int .i64 0, .int .i64 u1] 40) := ⟨_, rfl⟩; have hD1 : WD.heap[w16.heap.size]? = some (.cells #[.int .i64 fa, .int .i64 0, .int .i64 u1] 40 (0, 0)) := (by rw [hWD]; exact alloc_new _ _); have hbD : Below w15.heap.size w15 WD := (by rw [hWD]; exact hb16.alloc hb16.size _); have HWD := hide hWD; have HD1 := hide hD1; have HbD := hide hbD; clear hb16 hWD hD1 hbD)
 rw [← HWD.out]
 have hA3 := (HbD.out.block _ (lt_blk (Hk15.out _ (by unfold mutT; decide) _ _ _ HA1.out))).trans (Hk15.out _ (by unfold mutT; decide) _ _ _ HA1.out)
 have HA3 := hide hA3
 have HImD := hide ((((HIm.out.keep (Hk13.out _ (by unfold mutT; decide))).bel HbA.out).keep (Hk15.out _ (by unfold mutT; decide))).bel HbD.out)
 have HItD := hide ((((HIt.out.keep (Hk13.out _ (by unfold mutT; decide))).bel HbA.out).keep (Hk15.out _ (by unfold mutT; decide))).bel HbD.out)
 have HIoD := hide ((((HIo.out.keep (Hk13.out _ (by unfold mutT; decide))).bel HbA.out).keep (Hk15.out _ (by unfold mutT; decide))).bel HbD.out)
 have HTD := hide (HT15.out.below HbD.out)
 have hnb1 := nbOf_le (s := n1) (n := k2 + 1 + 1) hn14.1
 have hap := g_append HTD.out 1 (by omega) (L1 := [(0, endKey n1 T tn1)]) (L2 := []) (k0 := endKey n1 T tn1) HL15.out (by rw [assoc_cons, assoc_nil]; simp) (HImD.out.sub 0 1 (by omega)).ints (show T.length + 1 ≤ 40 by rw [HTl.out]; omega) (fun j hj => HmT.out _ (by omega)) (g_room_more HTD.out HL15.out rfl _ T (List.prefix_append _ _) (List.prefix_refl _) (List.prefix_append _ _) (by
   show nbOf c.slots T.length + nbOf c.slots (T ++ _).length ≤ _
   rw [List.length_append, natsOf_len, HTl.out, H32.out, Hcs.out, ← Hu1.out]
   refine Nat.le_trans ?_ (Nat.le_add_right _ _)
   omega))
 rw [HI15.out, ils_nil, Hcs.out] at hap
 have Hap := hide hap
 clear hap hA3
 go_upto_region 16 with (go_at_call 14; refine Hap.out.mono ?_; clear Hap; rintro e w17 ⟨rfl, hk17, p17, hT17, hd17⟩; have HT17 := hide hT17; have Hk17 := hide hk17; have Hd17 := hide hd17; clear hT17 hk17 hd17)
 obtain ⟨U, hU⟩ : ∃ U, U = T ++ natsOf 1 (fun j => FM (0 + j)) := ⟨_, rfl⟩
 have hUl : U.length = k2 + 1 + 1 := by rw [hU, List.length_append, natsOf_len, HTl.out]
 obtain ⟨tn2, hfr2, eL17, eI17⟩ : ∃ tn, (tn ≠ 0 ∧ (endKey n1 T tn1).2 ≠ tn) ∧ p17.L = [(0, endKey n1 T tn1), (1, endKey n1 U tn)] ∧ p17.il = [] := by
   rcases Hd17.out with ⟨q, _⟩ | ⟨_, tn, hf, e1, e2⟩
   · omega
   · exact ⟨tn, ⟨hf.1, hf.2 _ (by simp)⟩, by rw [e1, hU]; rfl, e2⟩
 have hku : keyOk n1 (endKey n1 U tn2) := endKey_ok n1 U tn2 hfr2.1
 have hus : nUsed c.slots (p17.L.map (·.2)) = u1 + 1 := by
   rw [eL17, Hcs.out]
   show nUsed n1 [endKey n1 T tn1, endKey n1 U tn2] = u1 + 1
   have hok : ∀ h ∈ [endKey n1 T tn1, endKey n1 U tn2], keyOk n1 h := fun h hh => by
     simp at hh
     rcases hh with rfl | rfl
     · exact Hkt.out
     · exact hku
   have e := used_two hn14.1 T U tn1 tn2 (by rw [hU]; exact List.prefix_append _ _) hfr2.1 hfr2.2 Hkt.out hku
   rw [nUsed_perm n1 [endKey n1 T tn1, endKey n1 U tn2] [endKey n1 U tn2, endKey n1 T tn1] hn14.1 hok (fun h => by simp [or_comm])]
   have e2 := nb_succ hn14.1 (k2 + 1)
   rw [hUl, HTl.out, e2, ← Hu1.out] at e
   omega
 obtain ⟨fb, hfb⟩ : ∃ fb : Int, ((32 - (u1 + 1) : Nat) : Int) = fb := ⟨_, rfl⟩
 have hst := g_stats HT17.out hfb (ua := (u1 : Int) + 1) (by omega) eI17 hus H32.out
 have Hst := hide hst
 have HhU := hide hU
 have HUl := hide hUl
 have Hfr2 := hide hfr2
 have HL17 := hide eL17
 have HI17 := hide eI17
 have Hku := hide hku
 have hA4 := Hk17.out _ (by unfold mutT; decide) _ _ _ HA3.out
 have hD4 := Hk17.out _ (by unfold mutT; decide) _ _ _ HD1.out
 have HA4 := hide hA4
 have HD4 := hide hD4
 clear hst hus hfb Hd17 hU hUl hfr2 eL17 eI17 hku hA4 hD4
 go_upto_region 17 with (go_at_call 18; refine Hst.out.mono ?_; clear Hst; rintro e w18 ⟨rfl, hb18⟩; obtain ⟨WE, hWE⟩ : ∃ WE, WE = w18.alloc (.cells #[.int .i64 fb, .int .i64 0, .int .i64 ((u1 : Int) + 1)] 40) := ⟨_, rfl⟩; have hE1 : WE.heap[w18.heap.size]? = some (.cells #[.int .i64 fb, .int .i64 0, .int .i64 ((u1 : Int) + 1)] 40 (0, 0)) := (by rw [hWE]; exact alloc_new _ _); have hbE : Below w17.heap.size w17 WE := (by rw [hWE]; exact hb18.alloc hb18.size _); have HWE := hide hWE; have HE1 := hide hE1; have HbE := hide hbE; clear hb18 hWE hE1 hbE)
 rw [← HWE.out]
 have HTE := hide (HT17.out.below HbE.out)
 obtain ⟨y0, y1, y2⟩ := stat3_cells ((HbE.out.block _ (lt_blk HA4.out)).trans HA4.out)
 obtain ⟨z0, z1, z2⟩ := stat3_cells ((HbE.out.block _ (lt_blk HD4.out)).trans HD4.out)
 obtain ⟨d0, d1, d2⟩ := stat3_cells HE1.out
 have hbk := fun W => hkblocks_any (k2 + 1) n1 W (by omega) hn14
 have e9 : (k2 + 1 + n1 - 1) / n1 = u1 := by rw [Hu1.out]; rfl
 rw [e9] at hbk
 have Hbk := hide hbk
 clear hbk e9
 go_cut [110] from 29 (fun v W => v = .bool false ∧ ∃ n, W = WE.drewN n)
 case first =>
   have e1 : ((u1 : Int) != u1) = false := by simp
   have e2 : ((u1 : Int) + 1 != u1 + 1) = false := by simp
   go_quiet ((go_at_call 20; exact Calls.quiet_of_same (Hbk.out _)))
   go_wp2
   go_meet
   case rel => exact ⟨rfl, _, rfl⟩
 case rest =>
   obtain ⟨rfl, n19, ewf⟩ := hcut
   obtain ⟨WF, hwf⟩ : ∃ WF, WF = wc := ⟨_, rfl⟩
   subst hwf
   have hbF : Below WE.heap.size WE WF := by rw [ewf]; exact below_drewN (Below.refl _ _) _
   have HTF := hide (HTE.out.below hbF)
   have HImF := hide (((HImD.out.keep (Hk17.out _ (by unfold mutT; decide))).bel HbE.out).bel hbF)
   have HItF := hide (((HItD.out.keep (Hk17.out _ (by unfold mutT; decide))).bel HbE.out).bel hbF)
   have HIoF := hide (((HIoD.out.keep (Hk17.out _ (by unfold mutT; decide))).bel HbE.out).bel hbF)
   clear hbF ewf HTE y0 y1 y2 z0 z1 z2 d0 d1 d2 Hbk HImD HItD HIoD HTD HIt HIm HIo
   have hm1 : Ints WF (.slice (if cm = 1 then some ⟨bm, 0, none⟩ else some ⟨bm, 1, none⟩) k3 (cm - 1)) k3 (fun j => FM (1 + j)) := by
     by_cases e : cm = 1
     · rw [if_pos e]
       exact ⟨_, _, rfl, by omega, by unfold maxLen; omega, fun h => by omega⟩
     · rw [if_neg e]
       have h1 := (HImF.out.sub 1 k3 (by omega)).ints
       rw [Nat.zero_add] at h1
       exact h1
   have hnbx := nbOf_le (s := n1) (n := k2 + 1 + 1 + k3) hn14.1
   have hnby := nb_add_le hn14.1 (k2 + 1) 0
   have hnbz := nb_add_le hn14.1 (k2 + 1) (k4 + 1)
   have hnbw := nbOf_le (s := n1) (n := k2 + 1 + (k3 + 1)) hn14.1
   have hnbv := nbOf_le (s := n1) (n := k2 + 1 + (k4 + 1)) hn14.1
   rw [Nat.add_zero] at hnby
   have hap := g_append HTF.out 1 (by omega) (L1 := [(0, endKey n1 T tn1)]) (L2 := []) (k0 := endKey n1 U tn2) HL17.out (by rw [assoc_cons, assoc_nil]; simp) hm1 (show U.length + k3 ≤ 40 by rw [HUl.out]; omega) (fun j hj => HmT.out _ (by omega)) (g_room_more HTF.out HL17.out rfl _ T (List.prefix_append _ _) (List.prefix_refl _) ((show T <+: U by rw [HhU.out]; exact List.prefix_append _ _).trans (List.prefix_append _ _)) (by
     show nbOf c.slots T.length + nbOf c.slots (U ++ _).length ≤ _
     rw [List.length_append, natsOf_len, HTl.out, HUl.out, H32.out, Hcs.out]
     omega))
   rw [HI17.out, ils_nil, Hcs.out] at hap
   have Hap := hide hap
   have Hnbx := hide hnbx
   have Hnby := hide hnby
   have Hnbz := hide hnbz
   have Hnbw := hide hnbw
   have Hnbv := hide hnbv
   clear hap hm1 hnbx hnby hnbz hnbw hnbv
   go_upto_region 20 with (go_at_call 14; refine Hap.out.mono ?_; clear Hap; generalize (if cm = 1 then (some (⟨bm, 0, none⟩ : Addr)) else some ⟨bm, 1, none⟩) = ax; rintro e w20 ⟨rfl, hk20, p20, hT20, hd20⟩; have HT20 := hide hT20; have Hk20 := hide hk20; have Hd20 := hide hd20; clear hT20 hk20 hd20)
   obtain ⟨k1, eL20, ek1, eI20⟩ : ∃ k1 : Key, p20.L = [(0, endKey n1 T tn1), (1, k1)] ∧ k1.1 = T ++ natsOf (k3 + 1) FM ∧ p20.il = [] := by
     have e1 : U ++ natsOf k3 (fun j => FM (1 + j)) = T ++ natsOf (k3 + 1) FM := by
       rw [HhU.out, List.append_assoc]
       have := natsOf_cut FM 1 k3
       rw [Nat.add_comm 1 k3] at this
       rw [← this]
       simp
     rcases Hd20.out with ⟨h0, hst⟩ | ⟨_, tn, hf, eL, eI⟩
     · refine ⟨endKey n1 U tn2, by rw [hst.1, HL17.out], ?_, by rw [hst.2, HI17.out]⟩
       show U = _
       rw [← e1, h0]
       simp [natsOf]
     · exact ⟨_, eL, e1, eI⟩
   have hk1l : k1.1.length = k2 + 1 + (k3 + 1) := by rw [ek1, List.length_append, natsOf_len, HTl.out]
   have hap := g_append HT20.out 0 (by omega) (L1 := []) (L2 := [(1, k1)]) (k0 := endKey n1 T tn1) eL20 rfl (HIoF.out.keep (Hk20.out _ (by unfold mutT; decide))).ints (show T.length + (k4 + 1) ≤ 40 by rw [HTl.out]; omega) HoT.out (g_room_more HT20.out (L1 := []) eL20 rfl _ T (List.prefix_append _ _) (by rw [ek1]; exact List.prefix_append _ _) (List.prefix_append _ _) (by
     show nbOf c.slots k1.1.length + nbOf c.slots (T ++ _).length ≤ _
     rw [List.length_append, natsOf_len, HTl.out, hk1l, H32.out, Hcs.out]
     have h1 := Hnbw.out
     have h2 := Hnbz.out
     omega))
   rw [eI20, Hcs.out] at hap
   have Hap := hide hap
   have Hek1 := hide ek1
   have HL20 := hide eL20
   clear hap Hd20 ek1 eL20 eI20 hk1l
   go_upto_region 21 with (go_at_call 14; refine Hap.out.mono ?_; clear Hap; rintro e w21 ⟨rfl, hk21, p21, hT21, hd21⟩; have HT21 := hide hT21; have Hk21 := hide hk21; have Hd21 := hide hd21; clear hT21 hk21 hd21)
   obtain ⟨k0, eL21, ek0⟩ : ∃ k0 : Key, p21.L = [(0, k0), (1, k1)] ∧ k0.1 = T ++ natsOf (k4 + 1) FO := by
     rcases Hd21.out with ⟨h0, _⟩ | ⟨_, tn, hf, eL, eI⟩
     · omega
     · exact ⟨_, eL, rfl⟩
   have HL21 := hide eL21
   have Hek0 := hide ek0
   have HIt21 := hide ((HItF.out.keep (Hk20.out _ (by unfold mutT; decide))).keep (Hk21.out _ (by unfold mutT; decide)))
   have HIm21 := hide ((HImF.out.keep (Hk20.out _ (by unfold mutT; decide))).keep (Hk21.out _ (by unfold mutT; decide)))
   have HIo21 := hide ((HIoF.out.keep (Hk20.out _ (by unfold mutT; decide))).keep (Hk21.out _ (by unfold mutT; decide)))
   clear eL21 ek0 Hd21 HItF HImF HIoF
   have s1 := src_at HIt21.out (by omega)
   have s2 := src_at HIo21.out (by omega)
   have S1 := hide s1
   have S2 := hide s2
   clear s1 s2
   go_upto_region 22 with (first
     | (at_builtin; refine wpList_append_own _ rfl _ _ 24 rfl w21.heap.size 3 i0 (.int .i64 0) 1 8 Try.underlying24 hi hz0 hz1 hz2 rfl (by decide) (.slice none 0 0) 0 [] rfl (World.ownsRow_nil _ _ _ _) ⟨bt, 0, none⟩ (k2 + 1) ct ((List.range (k2 + 1)).map fun i => .int .i64 (FT i)) rfl (by simp) S1.out (ints_one _ _) (by unfold maxLen; omega) (by omega) (Nat.le_refl _) ?_; intro v22 w22 hown22 hgrow22 _; have s3 := grown_src hgrow22 (fun e => by simp [Value.ownBlock] at e) S2.out; have S3 := hide s3; have Hb22 : Hid (Below w21.heap.size w21 w22) := ((Below.refl _ _).grown hgrow22 (Nat.le_refl _) (fun g hg => by simp [Value.ownBlock] at hg)); clear s3 hgrow22)
     | (at_builtin; refine wpList_append_own _ rfl _ _ 24 rfl w21.heap.size 3 i0 (.int .i64 0) 1 8 Try.underlying24 hi hz0 hz1 hz2 rfl (by decide) v22 (0 + (k2 + 1)) _ rfl hown22 ⟨bo, 0, none⟩ (k4 + 1) co ((List.range (k4 + 1)).map fun i => .int .i64 (FO i)) rfl (by simp) S3.out (ints_one _ _) (by unfold maxLen; omega) (by omega) Hb22.out.size ?_; intro v23 w23 hown23 hgrow23 _; have Hb23 : Hid (Below w21.heap.size w21 w23) := (Hb22.out.grown hgrow23 Hb22.out.size (fun g hg => (hown22.lt g hg).1)); obtain ⟨F1, hF1, hN1, hB1⟩ := two_rows hown23 HtT.out HoT.out; have HT23 := hide (HT21.out.below Hb23.out).flip; have hcr := g_create HT23.out 0 (by omega) hF1 (by omega) (by omega) hB1 (by rw [HeqL.out]; rfl) (by rw [HeqL.out]; simp) (g_room_first HT23.out HeqL.out _ (by rw [natsOf_len, H32.out, Hcs.out]; have := Hnbv.out; omega)); rw [hN1, HeqL.out, Hcs.out, ← HhT.out] at hcr; have Hcr := hide hcr; clear hcr hF1 hN1 hB1 hown22 hown23 hgrow23 Hb22)
     | (go_at_call 13; refine Hcr.out.mono ?_; clear Hcr; rintro e w24 ⟨rfl, hk24, q24, tn3, hT24, hfr3, eL24, _⟩; have HT24 := hide hT24; have Hk24 := hide hk24; have HL24 : Hid (q24.L = [(0, endKey n1 (T ++ natsOf (k4 + 1) FO) tn3)]) := eL24; clear hT24 hk24 eL24 hfr3))
   have HIt24 := hide ((HIt21.out.bel Hb23.out).keep (Hk24.out _ (by unfold mutT; decide)))
   have HIm24 := hide ((HIm21.out.bel Hb23.out).keep (Hk24.out _ (by unfold mutT; decide)))
   have s1 := src_at HIt24.out (by omega)
   have s2 := src_at HIm24.out (by omega)
   have S1 := hide s1
   have S2 := hide s2
   clear s1 s2
   go_upto_region 23 with (first
     | (at_builtin; refine wpList_append_own _ rfl _ _ 24 rfl w24.heap.size 3 i0 (.int .i64 0) 1 8 Try.underlying24 hi hz0 hz1 hz2 rfl (by decide) (.slice none 0 0) 0 [] rfl (World.ownsRow_nil _ _ _ _) ⟨bt, 0, none⟩ (k2 + 1) ct ((List.range (k2 + 1)).map fun i => .int .i64 (FT i)) rfl (by simp) S1.out (ints_one _ _) (by unfold maxLen; omega) (by omega) (Nat.le_refl _) ?_; intro v25 w25 hown25 hgrow25 _; have s3 := grown_src hgrow25 (fun e => by simp [Value.ownBlock] at e) S2.out; have S3 := hide s3; have Hb25 : Hid (Below w24.heap.size w24 w25) := ((Below.refl _ _).grown hgrow25 (Nat.le_refl _) (fun g hg => by simp [Value.ownBlock] at hg)); clear s3 hgrow25)
     | (at_builtin; refine wpList_append_own _ rfl _ _ 24 rfl w24.heap.size 3 i0 (.int .i64 0) 1 8 Try.underlying24 hi hz0 hz1 hz2 rfl (by decide) v25 (0 + (k2 + 1)) _ rfl hown25 ⟨bm, 0, none⟩ (k3 + 1) cm ((List.range (k3 + 1)).map fun i => .int .i64 (FM i)) rfl (by simp) S3.out (ints_one _ _) (by unfold maxLen; omega) (by omega) Hb25.out.size ?_; intro v26 w26 hown26 hgrow26 _; have Hb26 : Hid (Below w24.heap.size w24 w26) := (Hb25.out.grown hgrow26 Hb25.out.size (fun g hg => (hown25.lt g hg).1)); obtain ⟨F2, hF2, hN2, hB2⟩ := two_rows hown26 HtT.out HmT.out; have HT26 := hide (HT24.out.below Hb26.out); have hcr := g_create HT26.out 1 (by omega) hF2 (by omega) (by omega) hB2 (by rw [HL24.out, assoc_cons, assoc_nil]; simp) (by rw [HL24.out]; simp) (g_room_new HT26.out HL24.out _ T (List.prefix_append _ _) (by rw [hN2, HhT.out]; exact List.prefix_append _ _) (by rw [natsOf_len, HTl.out, H32.out, Hcs.out]; show nbOf n1 (T ++ natsOf (k4 + 1) FO).length + _ ≤ _; rw [List.length_append, natsOf_len, HTl.out]; have h1 := Hnbz.out; have h2 := Hnbw.out; omega)); rw [hN2, HL24.out, Hcs.out, ← HhT.out] at hcr; have Hcr := hide hcr; clear hcr hF2 hN2 hB2 hown25 hown26 hgrow26 Hb25)
     | (go_at_call 13; refine Hcr.out.mono ?_; clear Hcr; rintro e w27 ⟨rfl, hk27, q27, tn4, hT27, hfr4, eL27, _⟩; have HT27 := hide hT27.flip; have HL27 : Hid (q27.L = [(0, endKey n1 (T ++ natsOf (k4 + 1) FO) tn3), (1, endKey n1 (T ++ natsOf (k3 + 1) FM) tn4)]) := eL27; clear hT27 hk27 eL27 hfr4))
   obtain ⟨c0, c1, c2, c3, c4, c5, c6⟩ := cfg_cells ((HT27.out.bel.block _ (lt_blk Hcb.out)).trans Hcb.out)
   clear c0 c1 c3 c4 c5 c6
   have hal := g_alike HT27.out (fun k _ _ => by rw [HL21.out, HL27.out, tkM_two, tkM_two, Hek0.out, Hek1.out]; rfl)
   have Hal := hide hal
   clear hal
   go_wp2_with (go_at_call 17; refine Hal.out.mono ?_; clear Hal; rintro e w28 ⟨rfl, hb28⟩)
   go_ret
   exact ⟨rfl, Hbw.out.trans ((HT27.out.below hb28).bel.mono Hbw.out.size)⟩
end Go.Proofs.Ytlmflighkkgikaa
