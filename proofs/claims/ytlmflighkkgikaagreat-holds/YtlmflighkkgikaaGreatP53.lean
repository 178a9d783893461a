import Derived.Test.YtlmflighkkgikaaGreatP39
import Derived.Test.YtlmflighkkgikaaGreatP46
import Derived.Test.YtlmflighkkgikaaGreatP52

namespace Go.Proofs.YtlmflighkkgikaaGreat
open Go.RowKit
attribute [local go_sem ↓] Go.wp_at_zero Go.wp_at_succ
theorem Tryz.info_pptr : (Tryz.prog.info? 28).map (fun i => (i.zero, i.size, i.bytes)) = some (some (.pointer none), 1, 8) := by kernel_rfl
theorem PairsV.of_owns {w : World} {base : Nat} {lv : Value} {ps : List PD} (h : w.ownsRow base 28 1 lv ps.length (ps.map fun p => .pointer (some ⟨p.Pb, 0, none⟩))) : PairsV w lv ps := by
 obtain ⟨_, ⟨e1, e⟩ | ⟨g, cap, cur, e1, hg, hh, q1, q2, q3, q4⟩⟩ := h
 · exact .inl ⟨List.eq_nil_of_length_eq_zero e, e1⟩
 · refine .inr ⟨g, cap, cur, _, e1, q1, q2, hh, fun i p hp => ?_⟩
   have hi : i < ps.length := (List.getElem?_eq_some_iff.1 hp).1
   have h1 := congrArg (fun l => l[i]?) q4
   simp [hi] at h1
   rw [h1]
   have := List.getElem?_eq_some_iff.1 hp
   obtain ⟨_, e⟩ := this
   rw [e]
theorem PairI.mono {B0 B1 K : Nat} {w : World} {p : PD} (h : PairI B1 K w p) (hb : B0 ≤ B1) : PairI B0 K w p :=
 ⟨h.obj, h.cok, h.held, h.ref, fun k hk => ⟨Nat.le_trans hb (h.lo k hk).1, (h.lo k hk).2⟩, h.modK, h.hi⟩
theorem PairsV.below {w w' : World} {lv : Value} {ps : List PD} (h : PairsV w lv ps) (hb : Below w.heap.size w w') : PairsV w' lv ps := by
 rcases h with q | ⟨lb, cap, arr, fr, q1, q2, q3, q4, q5⟩
 · exact .inl q
 · exact .inr ⟨lb, cap, arr, fr, q1, q2, q3, (hb.block _ (lt_blk q4)).trans q4, q5⟩
theorem play_start {W0 w w' : World} {ps : List PD} {lv : Value} (hb : Below W0.heap.size W0 w) (hb' : Below w.heap.size w w') (hp : ∀ (i : Nat) p, ps[i]? = some p → (∀ K, w.heap.size ≤ K → PairI W0.heap.size K w p) ∧ p.nt = 0)
   (ha : ∀ (i j : Nat) p q, ps[i]? = some p → ps[j]? = some q → i ≠ j → ∀ k, SP p k → ¬ SP q k) (hl : PairsV w' lv ps) (hf : ps.length ≤ 2) :
   PlayI W0 (w'.alloc (.cells #[.slice none 0 0] 35)) ps lv w'.heap.size 0 (.slice none 0 0) 0 := by
 have hb2 : Below w'.heap.size w' (w'.alloc (.cells #[.slice none 0 0] 35)) := (Below.refl _ _).alloc (Nat.le_refl _) _
 have h1 := hb.trans (hb'.mono hb.size)
 refine ⟨w.heap.size, h1.trans (hb2.mono h1.size), fun i p hi => ⟨(((hp i p hi).1 _ (Nat.le_refl _)).below hb').below hb2, by rw [(hp i p hi).2]; omega⟩, ha, hl.below hb2, ⟨alloc_new _ _, fun _ => undef, World.ownsRow_nil _ _ _ _, fun i hi => absurd hi (by omega)⟩, fun b ⟨g, i, hg, _⟩ => (by cases hg), h1.size, fun k hk => (by cases hk), hf, Nat.le_trans hb'.size hb2.size⟩
theorem one_apart {p : PD} : ∀ (i j : Nat) q q', [p][i]? = some q → [p][j]? = some q' → i ≠ j → ∀ k, SP q k → ¬ SP q' k := fun i j q q' hi hj hne => by
 have h1 := (List.getElem?_eq_some_iff.1 hi).1
 have h2 := (List.getElem?_eq_some_iff.1 hj).1
 simp at h1 h2
 omega
theorem two_apart {p1 p2 : PD} (h : ∀ k, SP p1 k → ¬ SP p2 k) : ∀ (i j : Nat) q q', [p1, p2][i]? = some q → [p1, p2][j]? = some q' → i ≠ j → ∀ k, SP q k → ¬ SP q' k := fun i j q q' hi hj hne k hk hk' => by
 have h1 := (List.getElem?_eq_some_iff.1 hi).1
 have h2 := (List.getElem?_eq_some_iff.1 hj).1
 simp at h1 h2
 match i, j, h1, h2 with
 | 0, 0, _, _ => exact hne rfl
 | 1, 1, _, _ => exact hne rfl
 | 0, 1, _, _ => simp at hi hj; subst hi hj; exact h k hk hk'
 | 1, 0, _, _ => simp at hi hj; subst hi hj; exact h k hk' hk
theorem play_step {W0 w : World} {ps : List PD} {lv : Value} {B N : Nat} {vl : Value} {M ix : Nat} {p : PD} (h : PlayI W0 w ps lv B N vl M) (hi : ps[ix]? = some p) (hN : N ≤ 4999999999980) (hM : M ≤ 5000000000000) (H K A Bv C : Int) (vT : Value) (n : Nat) (f : Nat → Int) (hT : ArgI W0.heap.size w vT n f) (hA : i64 A) (hBv : i64 Bv) :
   Calls Tryz.prog 10 #[.pointer (some ⟨p.Pb, 0, none⟩), .agg #[.int .i64 H, .int .i64 K, .int .i64 A, .int .i64 Bv, .int .i64 C, vT], .pointer (some ⟨B, 0, none⟩)] w fun e w' => e = .returned (.bool true) ∧ ∃ ps' N' vl', ps'.length = ps.length ∧ N' ≤ N + 2 ∧ PlayI W0 w' ps' lv B N' vl' (M + 1) ∧ ∀ e, stillT e → KeepT e w w' := by
 obtain ⟨KK, h⟩ := h
 obtain ⟨h1, h2⟩ := h.pairs ix p hi
 refine (step_any W0.heap.size KK p w h1 h.below.size h.hK B N vl h.book (fun b hb => h.ent b hb ix p hi) hN (by omega) H K A Bv C vT n f hT hA hBv).mono ?_
 rintro e w' ⟨rfl, p', N', vl', hs⟩
 exact ⟨rfl, ps.set ix p', N', vl', by simp, hs.more, ⟨KK, h.step hi hs⟩, hs.keep⟩
theorem play_stats {W0 w : World} {ps : List PD} {lv : Value} {B N : Nat} {vl : Value} {M ix : Nat} {p : PD} (h : PlayI W0 w ps lv B N vl M) (hi : ps[ix]? = some p) : ∃ s1 s2 s3 : Int,
   (∀ W, Below w.heap.size w W → Calls Tryz.prog 12 #[.pointer (some ⟨p.g.X, 0, none⟩)] W fun e w1 => e = .returned (.agg #[.int .i64 s1, .int .i64 s2, .int .i64 s3]) ∧ Below W.heap.size W w1) ∧
   (∀ W, Below w.heap.size w W → Calls Tryz.prog 13 #[.pointer (some ⟨p.Y, 0, none⟩)] W fun e w1 => e = .returned (.agg #[.int .i64 s1, .int .i64 s2, .int .i64 s3]) ∧ Below W.heap.size W w1) ∧
   w.heap[p.Pb]? = some (.cells #[.pointer (some ⟨p.g.X, 0, none⟩), .pointer (some ⟨p.Y, 0, none⟩)] 46 (0, 0)) := by
 obtain ⟨KK, h⟩ := h
 obtain ⟨hp, _⟩ := h.pairs ix p hi
 obtain ⟨es1, es2⟩ := stats_same hp
 refine ⟨_, _, _, fun W hW => hstats_any p.F _ p.g p.c hp.cok p.L p.il W (hp.held.below hW), fun W hW => ?_, hp.obj⟩
 refine (refstats_any p.Y p.d p.c hp.cok p.L _ p.il p.nt p.vL p.vI W (hp.ref.below hW)).mono ?_
 rintro e w1 ⟨rfl, hb⟩
 refine ⟨?_, hb⟩
 rw [es1, es2]
theorem PlayI.at' {W0 w : World} {ps : List PD} {g len k : Nat} {B N : Nat} {vl : Value} {M ix : Nat} (h : PlayI W0 w ps (.slice (some ⟨g, 0, none⟩) len k) B N vl M) (hl : ps.length = len) (hi : ix < len) : ∃ p, ps[ix]? = some p ∧ w.cell? ⟨g, ix, none⟩ = some (.pointer (some ⟨p.Pb, 0, none⟩)) ∧ ∃ (arr : Array Value) (fr : Nat × Nat), w.heap[g]? = some (.cells arr 28 fr) ∧ arr[ix]? = some (.pointer (some ⟨p.Pb, 0, none⟩)) := by
 refine ⟨ps[ix], List.getElem?_eq_getElem (by omega), ?_⟩
 rcases h.list with ⟨_, e⟩ | ⟨lb, cap, arr, fr, q1, q2, q3, q4, q5⟩
 · cases e
 · injection q1 with q1 _ _
   injection q1 with q1
   injection q1 with q1 _ _
   subst q1
   exact ⟨by rw [cell_blk q4]; exact q5 ix _ (List.getElem?_eq_getElem (by omega)), arr, fr, q4, q5 ix _ (List.getElem?_eq_getElem (by omega))⟩
theorem pickI_lt {c n : Int} (h : 0 < n) : 0 ≤ pickI c n ∧ pickI c n < n := by
 unfold pickI
 constructor
 · split <;> exact Int.tmod_nonneg _ (by omega)
 · split <;> exact Int.tmod_lt_of_pos _ h
set_option maxRecDepth 100000 in
set_option maxHeartbeats 32000000 in
theorem plays_any (mo : Int) (_hmo : 0 ≤ mo ∧ mo ≤ 1000) (r1 r2 : Raw) (hs1 : i64 r1.seed) (hs2 : i64 r2.seed) (a : Option Addr) (n cap : Nat) (op : Nat → OpD) (W0 : World) (hS : ScriptI W0 a n cap op) :
   Calls Tryz.prog 6 #[r1.agg, r2.agg, .slice a n cap, .int .i64 mo] W0 fun e w' => e = .returned (.bool true) ∧ Below W0.heap.size W0 w' := by
 obtain ⟨i0, hi, hz0, hz1, hz2⟩ := info_parts Tryz.info_pptr
 have Hal := hide alive_any
 have HS := hide hS
 obtain ⟨Wa, hWa⟩ : ∃ Wa, Wa = (W0.alloc (.cells #[.int .i64 r1.blocks, .int .i64 r1.slots, .int .i64 r1.layers, .int .i64 r1.heads, .int .i64 r1.pairs, .int .i64 r1.vocab, .int .i64 r1.seed] 23)).alloc (.cells #[.int .i64 r2.blocks, .int .i64 r2.slots, .int .i64 r2.layers, .int .i64 r2.heads, .int .i64 r2.pairs, .int .i64 r2.vocab, .int .i64 r2.seed] 23) := ⟨_, rfl⟩
 have hbA : Below W0.heap.size W0 Wa := by rw [hWa]; exact ((Below.refl _ _).alloc (Nat.le_refl _) _).alloc (by simp) _
 have c1 : Wa.heap[W0.heap.size]? = some (.cells #[.int .i64 r1.blocks, .int .i64 r1.slots, .int .i64 r1.layers, .int .i64 r1.heads, .int .i64 r1.pairs, .int .i64 r1.vocab, .int .i64 r1.seed] 23 (0, 0)) := by rw [hWa, alloc_old _ _ _ (by simp)]; exact alloc_new _ _
 have c2 : Wa.heap[W0.heap.size + 1]? = some (.cells #[.int .i64 r2.blocks, .int .i64 r2.slots, .int .i64 r2.layers, .int .i64 r2.heads, .int .i64 r2.pairs, .int .i64 r2.vocab, .int .i64 r2.seed] 23 (0, 0)) := by
   rw [hWa]; have := alloc_new (W0.alloc (.cells #[.int .i64 r1.blocks, .int .i64 r1.slots, .int .i64 r1.layers, .int .i64 r1.heads, .int .i64 r1.pairs, .int .i64 r1.vocab, .int .i64 r1.seed] 23)) (.cells #[.int .i64 r2.blocks, .int .i64 r2.slots, .int .i64 r2.layers, .int .i64 r2.heads, .int .i64 r2.pairs, .int .i64 r2.vocab, .int .i64 r2.seed] 23); simpa using this
 have HWa := hide hWa
 have HbA := hide hbA
 have Hc1 := hide c1
 have Hc2 := hide c2
 clear hS hWa hbA c1 c2
 by_cases h1 : r1.right
 · by_cases h2 : r2.right
   · have hm1 := made_any r1.cfg (Raw.cfg_ok h1 hs1) r1 h1 (Raw.agg_cfg h1)
     have hm2 := made_any r2.cfg (Raw.cfg_ok h2 hs2) r2 h2 (Raw.agg_cfg h2)
     have Hm1 := hide hm1
     have Hm2 := hide hm2
     clear hm1 hm2 h1 h2 hs1 hs2
     unfold Raw.agg at *
     go_enter Tryz.func6, Tryz.ntmps6
     go_wp2_with (first
       | (go_at_call 7; rw [← HWa.out]; refine (Hal.out _).mono ?_; rintro e w1 ⟨rfl, hb⟩; have Hb1 := hide (HbA.out.trans (hb.mono HbA.out.size)); have Hd1 := hide ((hb.block _ (lt_blk Hc1.out)).trans Hc1.out); have Hd2 := hide ((hb.block _ (lt_blk Hc2.out)).trans Hc2.out); obtain ⟨y0, y1, y2, y3, y4, y5, y6⟩ := cfg_cells Hd1.out; clear hb)
       | (go_at_call 8; refine (Hm1.out _).mono ?_; rintro e w2 ⟨p1, rfl, _, _, _, hn1, hpb1, hp1, hb⟩; have Hb2 := hide (Hb1.out.trans (hb.mono Hb1.out.size)); obtain ⟨z0, z1, z2, z3, z4, z5, z6⟩ := cfg_cells ((hb.block _ (lt_blk Hd2.out)).trans Hd2.out); have Hp1 := hide hp1; have Hn1 := hide hn1; clear hb hp1 hn1 Hm1)
       | (go_at_call 8; refine (Hm2.out _).mono ?_; rintro e w3 ⟨p2, rfl, _, _, _, hn2, hpb2, hp2, hb⟩; have Hb3 := hide (Hb2.out.trans (hb.mono Hb2.out.size)); have Hb23 := hide hb; have Hp2 := hide hp2; have Hn2 := hide hn2; have hs3 := Hb3.out.size; clear hb hp2 hn2 Hm2)
       | (at_builtin; refine wpList_append_lies _ rfl _ _ _ rfl W0.heap.size 28 i0 _ 1 8 Tryz.underlying31 hi hz0 hz1 hz2 rfl (by omega) (.slice none 0 0) 0 _ rfl (World.ownsRow_nil _ _ _ _) ⟨w3.heap.size, 0, none⟩ 1 1 [.pointer (some ⟨p1.Pb, 0, none⟩)] rfl rfl (one_new w3 _ _) (by intro u hu; simp at hu; subst hu; rfl) (by omega) (by unfold maxLen; omega) (by omega) (by simp; omega) (w3.heap.size + 1) (by simp) ?_; intro g1 k1 w4 hown4 hgrow4 hat4 _; have hb4 : Below w3.heap.size w3 w4 := ((Below.refl _ _).alloc (Nat.le_refl _) _).grown hgrow4 (by simp) (fun k hk => by simp [Value.ownBlock] at hk); have hs4 := hb4.size; have hnew4 : ∀ k, (Value.slice (some ⟨g1, 0, none⟩) (0 + 1) k1).ownBlock = some k → w3.heap.size ≤ k := (fun k hk => by cases hk; show w3.heap.size ≤ g1; rcases hat4 with h | h <;> first | (cases h; done) | omega))
       | (at_builtin; refine wpList_append_lies _ rfl _ _ _ rfl W0.heap.size 28 i0 _ 1 8 Tryz.underlying31 hi hz0 hz1 hz2 rfl (by omega) (.slice (some ⟨g1, 0, none⟩) (0 + 1) k1) 1 _ rfl (hown4.alloc _) ⟨w4.heap.size, 0, none⟩ 1 1 [.pointer (some ⟨p2.Pb, 0, none⟩)] rfl rfl (one_new w4 _ _) (by intro u hu; simp at hu; subst hu; rfl) (by omega) (by unfold maxLen; omega) (by omega) (by simp; omega) (w4.heap.size + 1) (by simp) ?_; intro g2 k2 w5 hown5 hgrow5 _ _))
     have HP : Hid (PlayI W0 (w5.alloc (.cells #[.slice none 0 0] 35)) [p1, p2] (.slice (some ⟨g2, 0, none⟩) 2 k2) w5.heap.size 0 (.slice none 0 0) 0) := by
       have hb5 : Below w3.heap.size w3 w5 := (hb4.alloc hs4 _).grown hgrow5 (by simp; omega) (fun k hk => hnew4 k hk)
       refine play_start Hb3.out (w' := w5) hb5 (fun i p hi => ?_) (two_apart (fun k hk hk' => ?_)) (PairsV.of_owns (base := W0.heap.size) (by simpa using hown5)) (by simp)
       · match i, hi with
         | 0, hi => simp at hi; subst hi; exact ⟨fun K hK => ((Hp1.out K (Nat.le_trans Hb23.out.size hK)).mono Hb1.out.size).below Hb23.out, Hn1.out⟩
         | 1, hi => simp at hi; subst hi; exact ⟨fun K hK => (Hp2.out K hK).mono Hb2.out.size, Hn2.out⟩
       · have h1 := ((Hp1.out _ (Nat.le_refl _)).lo k hk).2
         have h2 := ((Hp2.out _ (Nat.le_refl _)).lo k hk').1
         omega
     go_loopw [16] (fun i wr => ∃ (kk : Nat) (ps : List PD) (N : Nat) (vl : Value), kk ≤ n ∧ i = .int .i64 kk ∧ ps.length = 2 ∧ N ≤ 2 * kk ∧ Hid (PlayI W0 wr ps (.slice (some ⟨g2, 0, none⟩) 2 k2) w5.heap.size N vl kk)) (fun i _ => n - (intOf i).toNat)
     case atStart => exact ⟨0, [p1, p2], 0, .slice none 0 0, Nat.zero_le _, rfl, rfl, by omega, HP.out⟩
     case round =>
       obtain ⟨kk, ps, N, vl, hkk, rfl, hpl, hN, Hpl⟩ := hrel
       have hmany := HS.out.many
       have hcap := HS.out.cap
       have hcle := HS.out.le
       unfold maxLen at hcap
       by_cases hlt : kk < n
       · obtain ⟨b, off, ea, hbl, o0, o1, o2, o3, o4, o5⟩ := HS.out.at' kk hlt
         obtain ⟨hT, hH, hA, hBv⟩ := HS.out.arg kk hlt
         subst ea
         have q0 := (Hpl.out.below.cell (p := ⟨b, off + kk * 6, none⟩) hbl).trans o0
         have q1 := (Hpl.out.below.cell (p := ⟨b, off + kk * 6 + 1, none⟩) hbl).trans o1
         have q2 := (Hpl.out.below.cell (p := ⟨b, off + kk * 6 + 2, none⟩) hbl).trans o2
         have q3 := (Hpl.out.below.cell (p := ⟨b, off + kk * 6 + 3, none⟩) hbl).trans o3
         have q4 := (Hpl.out.below.cell (p := ⟨b, off + kk * 6 + 4, none⟩) hbl).trans o4
         have q5 := (Hpl.out.below.cell (p := ⟨b, off + kk * 6 + 5, none⟩) hbl).trans o5
         obtain ⟨aT, cT, eT⟩ := hT.slice
         rw [eT] at q5 hT
         have HT := hide hT
         have HH := hide hH
         have HA := hide hA
         have HBv := hide hBv
         clear o0 o1 o2 o3 o4 o5 hT hH hA hBv
         by_cases hK4 : mo < (op kk).K
         · have HPn := hide (Hpl.out.alloc (w' := wr.alloc (.cells #[.int .i64 (op kk).H, .int .i64 (op kk).K, .int .i64 (op kk).A, .int .i64 (op kk).Bv, .int .i64 (op kk).C, .slice aT (op kk).nT cT] 38)) ((Below.refl _ _).alloc (Nat.le_refl _) _))
           go_wp2
           exact ⟨⟨kk + 1, ps, N, vl, by omega, by go_num, hpl, by omega, HPn.out.more (by omega)⟩, by simp [intOf]; omega⟩
         · have hix := pickI_lt (c := (op kk).H) (n := 2) (by omega)
           obtain ⟨ix, eix⟩ : ∃ ix : Nat, pickI (op kk).H 2 = ix := ⟨(pickI (op kk).H 2).toNat, by omega⟩
           obtain ⟨p, hp, hcl, larr, lfr, hlb, hla⟩ := Hpl.out.at' hpl (ix := ix) (by omega)
           have hgl := lt_blk hlb
           have Hla := hide hla
           have hix0 : (0 : Int) ≤ ix := by omega
           have hix2 : (ix : Int) < 2 := by omega
           have hpk := fun w => pick_any (op kk).H 2 w HH.out (by omega) (by omega)
           rw [eix] at hpk
           have hst : ∀ W, Below wr.heap.size wr W → Calls Tryz.prog 10 #[.pointer (some ⟨p.Pb, 0, none⟩), .agg #[.int .i64 (op kk).H, .int .i64 (op kk).K, .int .i64 (op kk).A, .int .i64 (op kk).Bv, .int .i64 (op kk).C, .slice aT (op kk).nT cT], .pointer (some ⟨w5.heap.size, 0, none⟩)] W fun e w' => e = .returned (.bool true) ∧ ∃ ps' N' vl', ps'.length = ps.length ∧ N' ≤ N + 2 ∧ PlayI W0 w' ps' (.slice (some ⟨g2, 0, none⟩) 2 k2) w5.heap.size N' vl' (kk + 1) ∧ ∀ e, stillT e → KeepT e W w' := fun W hW => by
             have h' := Hpl.out.alloc hW
             exact play_step h' hp (by omega) (by omega) _ _ _ _ _ _ _ _ (HT.out.keep (fun k hk => h'.below.block k hk)) HA.out HBv.out
           have hlk : ∀ w' ps' N' vl' M', N' ≤ 2 * kk + 2 → PlayI W0 w' ps' (.slice (some ⟨g2, 0, none⟩) 2 k2) w5.heap.size N' vl' M' → Calls Tryz.prog 11 #[.pointer (some ⟨w5.heap.size, 0, none⟩)] w' fun e w'' => e = .returned (.bool true) ∧ ∃ q, w'' = w'.drewN q := fun w' ps' N' vl' M' hN' h' =>
             looks_any _ _ _ _ h'.book (by omega)
           obtain ⟨WB, hWB⟩ : ∃ WB, WB = wr.alloc (.cells #[.int .i64 (op kk).H, .int .i64 (op kk).K, .int .i64 (op kk).A, .int .i64 (op kk).Bv, .int .i64 (op kk).C, .slice aT (op kk).nT cT] 38) := ⟨_, rfl⟩
           have hbB : Below wr.heap.size wr WB := by rw [hWB]; exact (Below.refl _ _).alloc (Nat.le_refl _) _
           have hbx : WB.heap[wr.heap.size]? = some (.cells #[.int .i64 (op kk).H, .int .i64 (op kk).K, .int .i64 (op kk).A, .int .i64 (op kk).Bv, .int .i64 (op kk).C, .slice aT (op kk).nT cT] 38 (0, 0)) := by rw [hWB]; exact alloc_new _ _
           obtain ⟨x0, x1, x2, x3, x4, x5⟩ := op_cells hbx
           have xl := (hbB.cell (p := ⟨g2, ix, none⟩) hgl).trans hcl
           have Hlb := hide ((hbB.block _ hgl).trans hlb)
           have Hst := hide hst
           have Hlk := hide hlk
           have Hpk := hide hpk
           have HWB := hide hWB
           have HbB := hide hbB
           have Hbx := hide hbx
           clear hst hlk hpk hWB hbB hbx eix hix hla hlb
           go_wp2
           rw [← HWB.out]
           go_region_held3 (fun w' => w'.cell? ⟨wr.heap.size, 0, none⟩ = some (.int .i64 (op kk).H) ∧ w'.cell? ⟨wr.heap.size, 1, none⟩ = some (.int .i64 (op kk).K) ∧ w'.cell? ⟨wr.heap.size, 2, none⟩ = some (.int .i64 (op kk).A) ∧ w'.cell? ⟨wr.heap.size, 3, none⟩ = some (.int .i64 (op kk).Bv) ∧ w'.cell? ⟨wr.heap.size, 4, none⟩ = some (.int .i64 (op kk).C) ∧ w'.cell? ⟨wr.heap.size, 5, none⟩ = some (.slice aT (op kk).nT cT) ∧ w'.cell? ⟨g2, ix, none⟩ = some (.pointer (some ⟨p.Pb, 0, none⟩))) (go_keep)
             (first
               | (go_at_call 9; refine (Hpk.out _).mono ?_; rintro e wp ⟨rfl, ep⟩; subst ep)
               | (go_at_call 10; refine (Hst.out _ (by exact below_drewN HbB.out 1)).mono ?_; rintro e w' ⟨rfl, ps', N', vl', hpl', hN', hplay, hkeep⟩; obtain ⟨j0, j1, j2, j3, j4, j5⟩ := op_cells (hkeep 38 (by unfold stillT mutT; decide) _ _ _ Hbx.out); have jl : w'.cell? ⟨g2, ix, none⟩ = some (.pointer (some ⟨p.Pb, 0, none⟩)) := (by rw [cell_blk (hkeep 28 (by unfold stillT mutT; decide) _ _ _ Hlb.out)]; exact Hla.out); have Hplay := hide hplay; clear hplay hkeep))
           go_wp2_with (go_at_call 11; refine (Hlk.out _ ps' N' vl' _ (by omega) Hplay.out).mono ?_; rintro e w'' ⟨rfl, q9, e9⟩; subst e9)
           exact ⟨⟨kk + 1, ps', N', vl', by omega, by go_num, by omega, by omega, Hplay.out.alloc (bdrew _ _)⟩, by simp [intOf]; omega⟩
       · go_wp2
         go_loopw [20] (fun i wr2 => ∃ (ii : Nat) (ps : List PD) (N : Nat) (vl : Value) (M : Nat), ii ≤ 2 ∧ i = .int .i64 ii ∧ ps.length = 2 ∧ N ≤ 2 * n + 16 * ii ∧ M ≤ n + 8 * ii ∧ Hid (PlayI W0 wr2 ps (.slice (some ⟨g2, 0, none⟩) 2 k2) w5.heap.size N vl M)) (fun i _ => 2 - (intOf i).toNat)
         case atStart => exact ⟨0, ps, N, vl, kk, Nat.zero_le _, rfl, hpl, by omega, by omega, Hpl.out⟩
         case round =>
           obtain ⟨ii, ps2, N2, vl2, M2, hii, rfl, hpl2, hN2, hM2, Hpl2⟩ := hrel
           by_cases hl2 : ii < 2
           · have hii0 : (0 : Int) ≤ ii := by omega
             have hii2 : (ii : Int) < 2 := by omega
             go_wp2
             go_loopw [21] (fun j wr3 => ∃ (jj : Nat) (ps : List PD) (N : Nat) (vl : Value) (M : Nat), jj ≤ 4 ∧ j = .int .i64 jj ∧ ps.length = 2 ∧ N ≤ 2 * n + 16 * ii + 4 * jj ∧ M ≤ n + 8 * ii + 2 * jj ∧ Hid (PlayI W0 wr3 ps (.slice (some ⟨g2, 0, none⟩) 2 k2) w5.heap.size N vl M)) (fun j _ => 4 - (intOf j).toNat)
             case atStart => exact ⟨0, ps2, N2, vl2, M2, Nat.zero_le _, rfl, hpl2, by omega, by omega, Hpl2.out⟩
             case round =>
               obtain ⟨jj, ps3, N3, vl3, M3, hjj, rfl, hpl3, hN3, hM3, Hpl3⟩ := hrel
               by_cases hl3 : jj < 4
               · obtain ⟨p3, hp3, hcl3, _⟩ := Hpl3.out.at' hpl3 (ix := ii) (by omega)
                 have hstp : ∀ (K : Int) W psX NX vlX MX pX, K = 2 ∨ K = 3 → NX ≤ 2 * n + 16 * ii + 4 * jj + 2 → MX ≤ n + 8 * ii + 2 * jj + 1 → PlayI W0 W psX (.slice (some ⟨g2, 0, none⟩) 2 k2) w5.heap.size NX vlX MX → psX[ii]? = some pX → Calls Tryz.prog 10 #[.pointer (some ⟨pX.Pb, 0, none⟩), .agg #[.int .i64 0, .int .i64 K, .int .i64 jj, .int .i64 0, .int .i64 0, .slice none 0 0], .pointer (some ⟨w5.heap.size, 0, none⟩)] W fun e w' => e = .returned (.bool true) ∧ ∃ ps' N' vl', ps'.length = psX.length ∧ N' ≤ NX + 2 ∧ PlayI W0 w' ps' (.slice (some ⟨g2, 0, none⟩) 2 k2) w5.heap.size N' vl' (MX + 1) ∧ ∀ e, stillT e → KeepT e W w' := fun K W psX NX vlX MX pX hK hNX hMX hX hpX =>
                   play_step hX hpX (by omega) (by omega) 0 K jj 0 0 (.slice none 0 0) 0 (fun _ => 0) (.inl ⟨rfl, rfl⟩) (by unfold i64; omega) (by unfold i64; omega)
                 have Hs2 := hide (hstp 2)
                 have Hs3 := hide (hstp 3)
                 clear hstp
                 go_wp2_with (first
                   | (go_at_call 10; refine (Hs2.out _ ps3 N3 vl3 M3 p3 (.inl rfl) (by omega) (by omega) Hpl3.out hp3).mono ?_; rintro e w4' ⟨rfl, ps4, N4, vl4, hpl4, hN4, hplay4, _⟩; obtain ⟨p4, hp4, hcl4, _⟩ := hplay4.at' (hpl4.trans hpl3) (ix := ii) (by omega); have Hplay4 := hide hplay4; clear hplay4 Hs2)
                   | (go_at_call 10; refine (Hs3.out w4' ps4 N4 vl4 (M3 + 1) p4 (by simp) (by omega) (by omega) Hplay4.out hp4).mono ?_; rintro e w5' ⟨rfl, ps5, N5, vl5, hpl5, hN5, hplay5, _⟩; have Hplay5 := hide hplay5; clear hplay5))
                 go_roundw
                 case rel => exact ⟨jj + 1, ps5, N5, vl5, M3 + 1 + 1, by omega, by go_num, by omega, by omega, by omega, Hplay5.out⟩
                 case measure => simp [intOf]; omega
               · by_cases h10 : 10 ≤ mo
                 · obtain ⟨p3, hp3, hcl3, _⟩ := Hpl3.out.at' hpl3 (ix := ii) (by omega)
                   obtain ⟨s1, s2, s3, hst1, hst2, hobj3⟩ := play_stats Hpl3.out hp3
                   obtain ⟨t0, t1⟩ := pair_cells hobj3
                   have hgl3 := cell_lt hcl3
                   have hd10 : decide (10 ≤ mo) = true := by simpa using h10
                   have Hst1 := hide hst1
                   have Hst2 := hide hst2
                   have Hobj3 := hide hobj3
                   have hPl3 := lt_blk hobj3
                   clear hst1 hst2 hobj3
                   go_wp2
                   go_region_held3 (fun w' => w'.cell? ⟨g2, ii, none⟩ = some (.pointer (some ⟨p3.Pb, 0, none⟩)) ∧ w'.cell? ⟨p3.Pb, 0, none⟩ = some (.pointer (some ⟨p3.g.X, 0, none⟩)) ∧ w'.cell? ⟨p3.Pb, 1, none⟩ = some (.pointer (some ⟨p3.Y, 0, none⟩))) (go_keep)
                     (first
                       | (go_at_call 12; refine (Hst1.out _ (by exact bdrew _ _)).mono ?_; rintro e w1' ⟨rfl, hb1'⟩; have HbS1 : Hid (Below wr.heap.size wr w1') := ⟨hb1'.os, hb1'.tape, hb1'.output, hb1'.size, hb1'.block⟩; obtain ⟨v0, v1⟩ := pair_cells ((HbS1.out.block _ hPl3).trans Hobj3.out); have vl1 := (HbS1.out.cell (p := ⟨g2, ii, none⟩) hgl3).trans hcl3; clear hb1')
                       | (go_at_call 13; refine (Hst2.out _ HbS1.out).mono ?_; rintro e w2' ⟨rfl, hb2'⟩; have HbS2 : Hid (Below wr.heap.size wr w2') := HbS1.out.trans (hb2'.mono HbS1.out.size); obtain ⟨v0, v1⟩ := pair_cells ((HbS2.out.block _ hPl3).trans Hobj3.out); have vl1 := (HbS2.out.cell (p := ⟨g2, ii, none⟩) hgl3).trans hcl3; clear hb2'))
                   go_wp2
                   exact ⟨⟨ii + 1, ps3, N3, vl3, M3, by omega, by go_num, hpl3, by omega, by omega, Hpl3.out.alloc HbS2.out⟩, by simp [intOf]; omega⟩
                 · have hd10 : decide (10 ≤ mo) = false := by simpa using h10
                   go_wp2
                   go_quiet (fail)
                   go_wp2
                   exact ⟨⟨ii + 1, ps3, N3, vl3, M3, by omega, by go_num, hpl3, by omega, by omega, Hpl3.out.alloc (bdrew _ _)⟩, by simp [intOf]; omega⟩
           · have hlk := looks_any _ _ _ _ Hpl2.out.book (by omega)
             have Hlk := hide hlk
             clear hlk
             go_wp2_with (go_at_call 11; refine Hlk.out.mono ?_; rintro e w'' ⟨rfl, q9, e9⟩; subst e9)
             go_ret
             exact ⟨rfl, below_drewN Hpl2.out.below q9⟩
   · have hm1 := made_any r1.cfg (Raw.cfg_ok h1 hs1) r1 h1 (Raw.agg_cfg h1)
     have hm2 := made_wrong r2 h2
     have Hm1 := hide hm1
     have Hm2 := hide hm2
     clear hm1 hm2 h1 h2 hs1 hs2
     unfold Raw.agg at *
     go_enter Tryz.func6, Tryz.ntmps6
     go_wp2_with (first
       | (go_at_call 7; rw [← HWa.out]; refine (Hal.out _).mono ?_; rintro e w1 ⟨rfl, hb⟩; have Hb1 := hide (HbA.out.trans (hb.mono HbA.out.size)); have Hd1 := hide ((hb.block _ (lt_blk Hc1.out)).trans Hc1.out); have Hd2 := hide ((hb.block _ (lt_blk Hc2.out)).trans Hc2.out); obtain ⟨y0, y1, y2, y3, y4, y5, y6⟩ := cfg_cells Hd1.out; clear hb)
       | (go_at_call 8; refine (Hm1.out _).mono ?_; rintro e w2 ⟨p1, rfl, _, _, _, hn1, hpb1, hp1, hb⟩; have Hb2 := hide (Hb1.out.trans (hb.mono Hb1.out.size)); obtain ⟨z0, z1, z2, z3, z4, z5, z6⟩ := cfg_cells ((hb.block _ (lt_blk Hd2.out)).trans Hd2.out); have Hp1 := hide hp1; have Hn1 := hide hn1; clear hb hp1 hn1 Hm1)
       | (go_at_call 8; refine (Hm2.out _).mono ?_; rintro e w3 ⟨rfl, hb⟩; have Hb3 := hide (Hb2.out.trans (hb.mono Hb2.out.size)); have Hb23 := hide hb; have hs3 := Hb3.out.size; clear hb Hm2)
       | (at_builtin; refine wpList_append_lies _ rfl _ _ _ rfl W0.heap.size 28 i0 _ 1 8 Tryz.underlying31 hi hz0 hz1 hz2 rfl (by omega) (.slice none 0 0) 0 _ rfl (World.ownsRow_nil _ _ _ _) ⟨w3.heap.size, 0, none⟩ 1 1 [.pointer (some ⟨p1.Pb, 0, none⟩)] rfl rfl (one_new w3 _ _) (by intro u hu; simp at hu; subst hu; rfl) (by omega) (by unfold maxLen; omega) (by omega) (by simp; omega) (w3.heap.size + 1) (by simp) ?_; intro g1 k1 w4 hown4 hgrow4 hat4 _; have hb4 : Below w3.heap.size w3 w4 := ((Below.refl _ _).alloc (Nat.le_refl _) _).grown hgrow4 (by simp) (fun k hk => by simp [Value.ownBlock] at hk); have hs4 := hb4.size; have hnew4 : ∀ k, (Value.slice (some ⟨g1, 0, none⟩) (0 + 1) k1).ownBlock = some k → w3.heap.size ≤ k := (fun k hk => by cases hk; show w3.heap.size ≤ g1; rcases hat4 with h | h <;> first | (cases h; done) | omega)))
     have HP : Hid (PlayI W0 (w4.alloc (.cells #[.slice none 0 0] 35)) [p1] (.slice (some ⟨g1, 0, none⟩) 1 k1) w4.heap.size 0 (.slice none 0 0) 0) := by
       refine play_start Hb3.out (w' := w4) hb4 (fun i p hi => ?_) one_apart (PairsV.of_owns (base := W0.heap.size) (by simpa using hown4)) (by simp)
       match i, hi with
       | 0, hi => simp at hi; subst hi; exact ⟨fun K hK => ((Hp1.out K (Nat.le_trans Hb23.out.size hK)).mono Hb1.out.size).below Hb23.out, Hn1.out⟩
     go_loopw [16] (fun i wr => ∃ (kk : Nat) (ps : List PD) (N : Nat) (vl : Value), kk ≤ n ∧ i = .int .i64 kk ∧ ps.length = 1 ∧ N ≤ 2 * kk ∧ Hid (PlayI W0 wr ps (.slice (some ⟨g1, 0, none⟩) 1 k1) w4.heap.size N vl kk)) (fun i _ => n - (intOf i).toNat)
     case atStart => exact ⟨0, [p1], 0, .slice none 0 0, Nat.zero_le _, rfl, rfl, by omega, HP.out⟩
     case round =>
       obtain ⟨kk, ps, N, vl, hkk, rfl, hpl, hN, Hpl⟩ := hrel
       have hmany := HS.out.many
       have hcap := HS.out.cap
       have hcle := HS.out.le
       unfold maxLen at hcap
       by_cases hlt : kk < n
       · obtain ⟨b, off, ea, hbl, o0, o1, o2, o3, o4, o5⟩ := HS.out.at' kk hlt
         obtain ⟨hT, hH, hA, hBv⟩ := HS.out.arg kk hlt
         subst ea
         have q0 := (Hpl.out.below.cell (p := ⟨b, off + kk * 6, none⟩) hbl).trans o0
         have q1 := (Hpl.out.below.cell (p := ⟨b, off + kk * 6 + 1, none⟩) hbl).trans o1
         have q2 := (Hpl.out.below.cell (p := ⟨b, off + kk * 6 + 2, none⟩) hbl).trans o2
         have q3 := (Hpl.out.below.cell (p := ⟨b, off + kk * 6 + 3, none⟩) hbl).trans o3
         have q4 := (Hpl.out.below.cell (p := ⟨b, off + kk * 6 + 4, none⟩) hbl).trans o4
         have q5 := (Hpl.out.below.cell (p := ⟨b, off + kk * 6 + 5, none⟩) hbl).trans o5
         obtain ⟨aT, cT, eT⟩ := hT.slice
         rw [eT] at q5 hT
         have HT := hide hT
         have HH := hide hH
         have HA := hide hA
         have HBv := hide hBv
         clear o0 o1 o2 o3 o4 o5 hT hH hA hBv
         by_cases hK4 : mo < (op kk).K
         · have HPn := hide (Hpl.out.alloc (w' := wr.alloc (.cells #[.int .i64 (op kk).H, .int .i64 (op kk).K, .int .i64 (op kk).A, .int .i64 (op kk).Bv, .int .i64 (op kk).C, .slice aT (op kk).nT cT] 38)) ((Below.refl _ _).alloc (Nat.le_refl _) _))
           go_wp2
           exact ⟨⟨kk + 1, ps, N, vl, by omega, by go_num, hpl, by omega, HPn.out.more (by omega)⟩, by simp [intOf]; omega⟩
         · have hix := pickI_lt (c := (op kk).H) (n := 1) (by omega)
           obtain ⟨ix, eix⟩ : ∃ ix : Nat, pickI (op kk).H 1 = ix := ⟨(pickI (op kk).H 1).toNat, by omega⟩
           obtain ⟨p, hp, hcl, larr, lfr, hlb, hla⟩ := Hpl.out.at' hpl (ix := ix) (by omega)
           have hgl := lt_blk hlb
           have Hla := hide hla
           have hix0 : (0 : Int) ≤ ix := by omega
           have hix2 : (ix : Int) < 1 := by omega
           have hpk := fun w => pick_any (op kk).H 1 w HH.out (by omega) (by omega)
           rw [eix] at hpk
           have hst : ∀ W, Below wr.heap.size wr W → Calls Tryz.prog 10 #[.pointer (some ⟨p.Pb, 0, none⟩), .agg #[.int .i64 (op kk).H, .int .i64 (op kk).K, .int .i64 (op kk).A, .int .i64 (op kk).Bv, .int .i64 (op kk).C, .slice aT (op kk).nT cT], .pointer (some ⟨w4.heap.size, 0, none⟩)] W fun e w' => e = .returned (.bool true) ∧ ∃ ps' N' vl', ps'.length = ps.length ∧ N' ≤ N + 2 ∧ PlayI W0 w' ps' (.slice (some ⟨g1, 0, none⟩) 1 k1) w4.heap.size N' vl' (kk + 1) ∧ ∀ e, stillT e → KeepT e W w' := fun W hW => by
             have h' := Hpl.out.alloc hW
             exact play_step h' hp (by omega) (by omega) _ _ _ _ _ _ _ _ (HT.out.keep (fun k hk => h'.below.block k hk)) HA.out HBv.out
           have hlk : ∀ w' ps' N' vl' M', N' ≤ 2 * kk + 2 → PlayI W0 w' ps' (.slice (some ⟨g1, 0, none⟩) 1 k1) w4.heap.size N' vl' M' → Calls Tryz.prog 11 #[.pointer (some ⟨w4.heap.size, 0, none⟩)] w' fun e w'' => e = .returned (.bool true) ∧ ∃ q, w'' = w'.drewN q := fun w' ps' N' vl' M' hN' h' =>
             looks_any _ _ _ _ h'.book (by omega)
           obtain ⟨WB, hWB⟩ : ∃ WB, WB = wr.alloc (.cells #[.int .i64 (op kk).H, .int .i64 (op kk).K, .int .i64 (op kk).A, .int .i64 (op kk).Bv, .int .i64 (op kk).C, .slice aT (op kk).nT cT] 38) := ⟨_, rfl⟩
           have hbB : Below wr.heap.size wr WB := by rw [hWB]; exact (Below.refl _ _).alloc (Nat.le_refl _) _
           have hbx : WB.heap[wr.heap.size]? = some (.cells #[.int .i64 (op kk).H, .int .i64 (op kk).K, .int .i64 (op kk).A, .int .i64 (op kk).Bv, .int .i64 (op kk).C, .slice aT (op kk).nT cT] 38 (0, 0)) := by rw [hWB]; exact alloc_new _ _
           obtain ⟨x0, x1, x2, x3, x4, x5⟩ := op_cells hbx
           have xl := (hbB.cell (p := ⟨g1, ix, none⟩) hgl).trans hcl
           have Hlb := hide ((hbB.block _ hgl).trans hlb)
           have Hst := hide hst
           have Hlk := hide hlk
           have Hpk := hide hpk
           have HWB := hide hWB
           have HbB := hide hbB
           have Hbx := hide hbx
           clear hst hlk hpk hWB hbB hbx eix hix hla hlb
           go_wp2
           rw [← HWB.out]
           go_region_held3 (fun w' => w'.cell? ⟨wr.heap.size, 0, none⟩ = some (.int .i64 (op kk).H) ∧ w'.cell? ⟨wr.heap.size, 1, none⟩ = some (.int .i64 (op kk).K) ∧ w'.cell? ⟨wr.heap.size, 2, none⟩ = some (.int .i64 (op kk).A) ∧ w'.cell? ⟨wr.heap.size, 3, none⟩ = some (.int .i64 (op kk).Bv) ∧ w'.cell? ⟨wr.heap.size, 4, none⟩ = some (.int .i64 (op kk).C) ∧ w'.cell? ⟨wr.heap.size, 5, none⟩ = some (.slice aT (op kk).nT cT) ∧ w'.cell? ⟨g1, ix, none⟩ = some (.pointer (some ⟨p.Pb, 0, none⟩))) (go_keep)
             (first
               | (go_at_call 9; refine (Hpk.out _).mono ?_; rintro e wp ⟨rfl, ep⟩; subst ep)
               | (go_at_call 10; refine (Hst.out _ (by exact below_drewN HbB.out 1)).mono ?_; rintro e w' ⟨rfl, ps', N', vl', hpl', hN', hplay, hkeep⟩; obtain ⟨j0, j1, j2, j3, j4, j5⟩ := op_cells (hkeep 38 (by unfold stillT mutT; decide) _ _ _ Hbx.out); have jl : w'.cell? ⟨g1, ix, none⟩ = some (.pointer (some ⟨p.Pb, 0, none⟩)) := (by rw [cell_blk (hkeep 28 (by unfold stillT mutT; decide) _ _ _ Hlb.out)]; exact Hla.out); have Hplay := hide hplay; clear hplay hkeep))
           go_wp2_with (go_at_call 11; refine (Hlk.out _ ps' N' vl' _ (by omega) Hplay.out).mono ?_; rintro e w'' ⟨rfl, q9, e9⟩; subst e9)
           exact ⟨⟨kk + 1, ps', N', vl', by omega, by go_num, by omega, by omega, Hplay.out.alloc (bdrew _ _)⟩, by simp [intOf]; omega⟩
       · go_wp2
         go_loopw [20] (fun i wr2 => ∃ (ii : Nat) (ps : List PD) (N : Nat) (vl : Value) (M : Nat), ii ≤ 1 ∧ i = .int .i64 ii ∧ ps.length = 1 ∧ N ≤ 2 * n + 16 * ii ∧ M ≤ n + 8 * ii ∧ Hid (PlayI W0 wr2 ps (.slice (some ⟨g1, 0, none⟩) 1 k1) w4.heap.size N vl M)) (fun i _ => 1 - (intOf i).toNat)
         case atStart => exact ⟨0, ps, N, vl, kk, Nat.zero_le _, rfl, hpl, by omega, by omega, Hpl.out⟩
         case round =>
           obtain ⟨ii, ps2, N2, vl2, M2, hii, rfl, hpl2, hN2, hM2, Hpl2⟩ := hrel
           by_cases hl2 : ii < 1
           · have hii0 : (0 : Int) ≤ ii := by omega
             have hii2 : (ii : Int) < 1 := by omega
             go_wp2
             go_loopw [21] (fun j wr3 => ∃ (jj : Nat) (ps : List PD) (N : Nat) (vl : Value) (M : Nat), jj ≤ 4 ∧ j = .int .i64 jj ∧ ps.length = 1 ∧ N ≤ 2 * n + 16 * ii + 4 * jj ∧ M ≤ n + 8 * ii + 2 * jj ∧ Hid (PlayI W0 wr3 ps (.slice (some ⟨g1, 0, none⟩) 1 k1) w4.heap.size N vl M)) (fun j _ => 4 - (intOf j).toNat)
             case atStart => exact ⟨0, ps2, N2, vl2, M2, Nat.zero_le _, rfl, hpl2, by omega, by omega, Hpl2.out⟩
             case round =>
               obtain ⟨jj, ps3, N3, vl3, M3, hjj, rfl, hpl3, hN3, hM3, Hpl3⟩ := hrel
               by_cases hl3 : jj < 4
               · obtain ⟨p3, hp3, hcl3, _⟩ := Hpl3.out.at' hpl3 (ix := ii) (by omega)
                 have hstp : ∀ (K : Int) W psX NX vlX MX pX, K = 2 ∨ K = 3 → NX ≤ 2 * n + 16 * ii + 4 * jj + 2 → MX ≤ n + 8 * ii + 2 * jj + 1 → PlayI W0 W psX (.slice (some ⟨g1, 0, none⟩) 1 k1) w4.heap.size NX vlX MX → psX[ii]? = some pX → Calls Tryz.prog 10 #[.pointer (some ⟨pX.Pb, 0, none⟩), .agg #[.int .i64 0, .int .i64 K, .int .i64 jj, .int .i64 0, .int .i64 0, .slice none 0 0], .pointer (some ⟨w4.heap.size, 0, none⟩)] W fun e w' => e = .returned (.bool true) ∧ ∃ ps' N' vl', ps'.length = psX.length ∧ N' ≤ NX + 2 ∧ PlayI W0 w' ps' (.slice (some ⟨g1, 0, none⟩) 1 k1) w4.heap.size N' vl' (MX + 1) ∧ ∀ e, stillT e → KeepT e W w' := fun K W psX NX vlX MX pX hK hNX hMX hX hpX =>
                   play_step hX hpX (by omega) (by omega) 0 K jj 0 0 (.slice none 0 0) 0 (fun _ => 0) (.inl ⟨rfl, rfl⟩) (by unfold i64; omega) (by unfold i64; omega)
                 have Hs2 := hide (hstp 2)
                 have Hs3 := hide (hstp 3)
                 clear hstp
                 go_wp2_with (first
                   | (go_at_call 10; refine (Hs2.out _ ps3 N3 vl3 M3 p3 (.inl rfl) (by omega) (by omega) Hpl3.out hp3).mono ?_; rintro e w4' ⟨rfl, ps4, N4, vl4, hpl4, hN4, hplay4, _⟩; obtain ⟨p4, hp4, hcl4, _⟩ := hplay4.at' (hpl4.trans hpl3) (ix := ii) (by omega); have Hplay4 := hide hplay4; clear hplay4 Hs2)
                   | (go_at_call 10; refine (Hs3.out w4' ps4 N4 vl4 (M3 + 1) p4 (by simp) (by omega) (by omega) Hplay4.out hp4).mono ?_; rintro e w5' ⟨rfl, ps5, N5, vl5, hpl5, hN5, hplay5, _⟩; have Hplay5 := hide hplay5; clear hplay5))
                 go_roundw
                 case rel => exact ⟨jj + 1, ps5, N5, vl5, M3 + 1 + 1, by omega, by go_num, by omega, by omega, by omega, Hplay5.out⟩
                 case measure => simp [intOf]; omega
               · by_cases h10 : 10 ≤ mo
                 · obtain ⟨p3, hp3, hcl3, _⟩ := Hpl3.out.at' hpl3 (ix := ii) (by omega)
                   obtain ⟨s1, s2, s3, hst1, hst2, hobj3⟩ := play_stats Hpl3.out hp3
                   obtain ⟨t0, t1⟩ := pair_cells hobj3
                   have hgl3 := cell_lt hcl3
                   have hd10 : decide (10 ≤ mo) = true := by simpa using h10
                   have Hst1 := hide hst1
                   have Hst2 := hide hst2
                   have Hobj3 := hide hobj3
                   have hPl3 := lt_blk hobj3
                   clear hst1 hst2 hobj3
                   go_wp2
                   go_region_held3 (fun w' => w'.cell? ⟨g1, ii, none⟩ = some (.pointer (some ⟨p3.Pb, 0, none⟩)) ∧ w'.cell? ⟨p3.Pb, 0, none⟩ = some (.pointer (some ⟨p3.g.X, 0, none⟩)) ∧ w'.cell? ⟨p3.Pb, 1, none⟩ = some (.pointer (some ⟨p3.Y, 0, none⟩))) (go_keep)
                     (first
                       | (go_at_call 12; refine (Hst1.out _ (by exact bdrew _ _)).mono ?_; rintro e w1' ⟨rfl, hb1'⟩; have HbS1 : Hid (Below wr.heap.size wr w1') := ⟨hb1'.os, hb1'.tape, hb1'.output, hb1'.size, hb1'.block⟩; obtain ⟨v0, v1⟩ := pair_cells ((HbS1.out.block _ hPl3).trans Hobj3.out); have vl1 := (HbS1.out.cell (p := ⟨g1, ii, none⟩) hgl3).trans hcl3; clear hb1')
                       | (go_at_call 13; refine (Hst2.out _ HbS1.out).mono ?_; rintro e w2' ⟨rfl, hb2'⟩; have HbS2 : Hid (Below wr.heap.size wr w2') := HbS1.out.trans (hb2'.mono HbS1.out.size); obtain ⟨v0, v1⟩ := pair_cells ((HbS2.out.block _ hPl3).trans Hobj3.out); have vl1 := (HbS2.out.cell (p := ⟨g1, ii, none⟩) hgl3).trans hcl3; clear hb2'))
                   go_wp2
                   exact ⟨⟨ii + 1, ps3, N3, vl3, M3, by omega, by go_num, hpl3, by omega, by omega, Hpl3.out.alloc HbS2.out⟩, by simp [intOf]; omega⟩
                 · have hd10 : decide (10 ≤ mo) = false := by simpa using h10
                   go_wp2
                   go_quiet (fail)
                   go_wp2
                   exact ⟨⟨ii + 1, ps3, N3, vl3, M3, by omega, by go_num, hpl3, by omega, by omega, Hpl3.out.alloc (bdrew _ _)⟩, by simp [intOf]; omega⟩
           · have hlk := looks_any _ _ _ _ Hpl2.out.book (by omega)
             have Hlk := hide hlk
             clear hlk
             go_wp2_with (go_at_call 11; refine Hlk.out.mono ?_; rintro e w'' ⟨rfl, q9, e9⟩; subst e9)
             go_ret
             exact ⟨rfl, below_drewN Hpl2.out.below q9⟩
 · by_cases h2 : r2.right
   · have hm1 := made_wrong r1 h1
     have hm2 := made_any r2.cfg (Raw.cfg_ok h2 hs2) r2 h2 (Raw.agg_cfg h2)
     have Hm1 := hide hm1
     have Hm2 := hide hm2
     clear hm1 hm2 h1 h2 hs1 hs2
     unfold Raw.agg at *
     go_enter Tryz.func6, Tryz.ntmps6
     go_wp2_with (first
       | (go_at_call 7; rw [← HWa.out]; refine (Hal.out _).mono ?_; rintro e w1 ⟨rfl, hb⟩; have Hb1 := hide (HbA.out.trans (hb.mono HbA.out.size)); have Hd1 := hide ((hb.block _ (lt_blk Hc1.out)).trans Hc1.out); have Hd2 := hide ((hb.block _ (lt_blk Hc2.out)).trans Hc2.out); obtain ⟨y0, y1, y2, y3, y4, y5, y6⟩ := cfg_cells Hd1.out; clear hb)
       | (go_at_call 8; refine (Hm1.out _).mono ?_; rintro e w2 ⟨rfl, hb⟩; have Hb2 := hide (Hb1.out.trans (hb.mono Hb1.out.size)); obtain ⟨z0, z1, z2, z3, z4, z5, z6⟩ := cfg_cells ((hb.block _ (lt_blk Hd2.out)).trans Hd2.out); clear hb Hm1)
       | (go_at_call 8; refine (Hm2.out _).mono ?_; rintro e w3 ⟨p2, rfl, _, _, _, hn2, hpb2, hp2, hb⟩; have Hb3 := hide (Hb2.out.trans (hb.mono Hb2.out.size)); have Hb23 := hide hb; have Hp2 := hide hp2; have Hn2 := hide hn2; have hs3 := Hb3.out.size; clear hb hp2 hn2 Hm2)
       | (at_builtin; refine wpList_append_lies _ rfl _ _ _ rfl W0.heap.size 28 i0 _ 1 8 Tryz.underlying31 hi hz0 hz1 hz2 rfl (by omega) (.slice none 0 0) 0 _ rfl (World.ownsRow_nil _ _ _ _) ⟨w3.heap.size, 0, none⟩ 1 1 [.pointer (some ⟨p2.Pb, 0, none⟩)] rfl rfl (one_new w3 _ _) (by intro u hu; simp at hu; subst hu; rfl) (by omega) (by unfold maxLen; omega) (by omega) (by simp; omega) (w3.heap.size + 1) (by simp) ?_; intro g1 k1 w4 hown4 hgrow4 hat4 _; have hb4 : Below w3.heap.size w3 w4 := ((Below.refl _ _).alloc (Nat.le_refl _) _).grown hgrow4 (by simp) (fun k hk => by simp [Value.ownBlock] at hk); have hs4 := hb4.size; have hnew4 : ∀ k, (Value.slice (some ⟨g1, 0, none⟩) (0 + 1) k1).ownBlock = some k → w3.heap.size ≤ k := (fun k hk => by cases hk; show w3.heap.size ≤ g1; rcases hat4 with h | h <;> first | (cases h; done) | omega)))
     have HP : Hid (PlayI W0 (w4.alloc (.cells #[.slice none 0 0] 35)) [p2] (.slice (some ⟨g1, 0, none⟩) 1 k1) w4.heap.size 0 (.slice none 0 0) 0) := by
       refine play_start Hb3.out (w' := w4) hb4 (fun i p hi => ?_) one_apart (PairsV.of_owns (base := W0.heap.size) (by simpa using hown4)) (by simp)
       match i, hi with
       | 0, hi => simp at hi; subst hi; exact ⟨fun K hK => (Hp2.out K hK).mono Hb2.out.size, Hn2.out⟩
     go_loopw [16] (fun i wr => ∃ (kk : Nat) (ps : List PD) (N : Nat) (vl : Value), kk ≤ n ∧ i = .int .i64 kk ∧ ps.length = 1 ∧ N ≤ 2 * kk ∧ Hid (PlayI W0 wr ps (.slice (some ⟨g1, 0, none⟩) 1 k1) w4.heap.size N vl kk)) (fun i _ => n - (intOf i).toNat)
     case atStart => exact ⟨0, [p2], 0, .slice none 0 0, Nat.zero_le _, rfl, rfl, by omega, HP.out⟩
     case round =>
       obtain ⟨kk, ps, N, vl, hkk, rfl, hpl, hN, Hpl⟩ := hrel
       have hmany := HS.out.many
       have hcap := HS.out.cap
       have hcle := HS.out.le
       unfold maxLen at hcap
       by_cases hlt : kk < n
       · obtain ⟨b, off, ea, hbl, o0, o1, o2, o3, o4, o5⟩ := HS.out.at' kk hlt
         obtain ⟨hT, hH, hA, hBv⟩ := HS.out.arg kk hlt
         subst ea
         have q0 := (Hpl.out.below.cell (p := ⟨b, off + kk * 6, none⟩) hbl).trans o0
         have q1 := (Hpl.out.below.cell (p := ⟨b, off + kk * 6 + 1, none⟩) hbl).trans o1
         have q2 := (Hpl.out.below.cell (p := ⟨b, off + kk * 6 + 2, none⟩) hbl).trans o2
         have q3 := (Hpl.out.below.cell (p := ⟨b, off + kk * 6 + 3, none⟩) hbl).trans o3
         have q4 := (Hpl.out.below.cell (p := ⟨b, off + kk * 6 + 4, none⟩) hbl).trans o4
         have q5 := (Hpl.out.below.cell (p := ⟨b, off + kk * 6 + 5, none⟩) hbl).trans o5
         obtain ⟨aT, cT, eT⟩ := hT.slice
         rw [eT] at q5 hT
         have HT := hide hT
         have HH := hide hH
         have HA := hide hA
         have HBv := hide hBv
         clear o0 o1 o2 o3 o4 o5 hT hH hA hBv
         by_cases hK4 : mo < (op kk).K
         · have HPn := hide (Hpl.out.alloc (w' := wr.alloc (.cells #[.int .i64 (op kk).H, .int .i64 (op kk).K, .int .i64 (op kk).A, .int .i64 (op kk).Bv, .int .i64 (op kk).C, .slice aT (op kk).nT cT] 38)) ((Below.refl _ _).alloc (Nat.le_refl _) _))
           go_wp2
           exact ⟨⟨kk + 1, ps, N, vl, by omega, by go_num, hpl, by omega, HPn.out.more (by omega)⟩, by simp [intOf]; omega⟩
         · have hix := pickI_lt (c := (op kk).H) (n := 1) (by omega)
           obtain ⟨ix, eix⟩ : ∃ ix : Nat, pickI (op kk).H 1 = ix := ⟨(pickI (op kk).H 1).toNat, by omega⟩
           obtain ⟨p, hp, hcl, larr, lfr, hlb, hla⟩ := Hpl.out.at' hpl (ix := ix) (by omega)
           have hgl := lt_blk hlb
           have Hla := hide hla
           have hix0 : (0 : Int) ≤ ix := by omega
           have hix2 : (ix : Int) < 1 := by omega
           have hpk := fun w => pick_any (op kk).H 1 w HH.out (by omega) (by omega)
           rw [eix] at hpk
           have hst : ∀ W, Below wr.heap.size wr W → Calls Tryz.prog 10 #[.pointer (some ⟨p.Pb, 0, none⟩), .agg #[.int .i64 (op kk).H, .int .i64 (op kk).K, .int .i64 (op kk).A, .int .i64 (op kk).Bv, .int .i64 (op kk).C, .slice aT (op kk).nT cT], .pointer (some ⟨w4.heap.size, 0, none⟩)] W fun e w' => e = .returned (.bool true) ∧ ∃ ps' N' vl', ps'.length = ps.length ∧ N' ≤ N + 2 ∧ PlayI W0 w' ps' (.slice (some ⟨g1, 0, none⟩) 1 k1) w4.heap.size N' vl' (kk + 1) ∧ ∀ e, stillT e → KeepT e W w' := fun W hW => by
             have h' := Hpl.out.alloc hW
             exact play_step h' hp (by omega) (by omega) _ _ _ _ _ _ _ _ (HT.out.keep (fun k hk => h'.below.block k hk)) HA.out HBv.out
           have hlk : ∀ w' ps' N' vl' M', N' ≤ 2 * kk + 2 → PlayI W0 w' ps' (.slice (some ⟨g1, 0, none⟩) 1 k1) w4.heap.size N' vl' M' → Calls Tryz.prog 11 #[.pointer (some ⟨w4.heap.size, 0, none⟩)] w' fun e w'' => e = .returned (.bool true) ∧ ∃ q, w'' = w'.drewN q := fun w' ps' N' vl' M' hN' h' =>
             looks_any _ _ _ _ h'.book (by omega)
           obtain ⟨WB, hWB⟩ : ∃ WB, WB = wr.alloc (.cells #[.int .i64 (op kk).H, .int .i64 (op kk).K, .int .i64 (op kk).A, .int .i64 (op kk).Bv, .int .i64 (op kk).C, .slice aT (op kk).nT cT] 38) := ⟨_, rfl⟩
           have hbB : Below wr.heap.size wr WB := by rw [hWB]; exact (Below.refl _ _).alloc (Nat.le_refl _) _
           have hbx : WB.heap[wr.heap.size]? = some (.cells #[.int .i64 (op kk).H, .int .i64 (op kk).K, .int .i64 (op kk).A, .int .i64 (op kk).Bv, .int .i64 (op kk).C, .slice aT (op kk).nT cT] 38 (0, 0)) := by rw [hWB]; exact alloc_new _ _
           obtain ⟨x0, x1, x2, x3, x4, x5⟩ := op_cells hbx
           have xl := (hbB.cell (p := ⟨g1, ix, none⟩) hgl).trans hcl
           have Hlb := hide ((hbB.block _ hgl).trans hlb)
           have Hst := hide hst
           have Hlk := hide hlk
           have Hpk := hide hpk
           have HWB := hide hWB
           have HbB := hide hbB
           have Hbx := hide hbx
           clear hst hlk hpk hWB hbB hbx eix hix hla hlb
           go_wp2
           rw [← HWB.out]
           go_region_held3 (fun w' => w'.cell? ⟨wr.heap.size, 0, none⟩ = some (.int .i64 (op kk).H) ∧ w'.cell? ⟨wr.heap.size, 1, none⟩ = some (.int .i64 (op kk).K) ∧ w'.cell? ⟨wr.heap.size, 2, none⟩ = some (.int .i64 (op kk).A) ∧ w'.cell? ⟨wr.heap.size, 3, none⟩ = some (.int .i64 (op kk).Bv) ∧ w'.cell? ⟨wr.heap.size, 4, none⟩ = some (.int .i64 (op kk).C) ∧ w'.cell? ⟨wr.heap.size, 5, none⟩ = some (.slice aT (op kk).nT cT) ∧ w'.cell? ⟨g1, ix, none⟩ = some (.pointer (some ⟨p.Pb, 0, none⟩))) (go_keep)
             (first
               | (go_at_call 9; refine (Hpk.out _).mono ?_; rintro e wp ⟨rfl, ep⟩; subst ep)
               | (go_at_call 10; refine (Hst.out _ (by exact below_drewN HbB.out 1)).mono ?_; rintro e w' ⟨rfl, ps', N', vl', hpl', hN', hplay, hkeep⟩; obtain ⟨j0, j1, j2, j3, j4, j5⟩ := op_cells (hkeep 38 (by unfold stillT mutT; decide) _ _ _ Hbx.out); have jl : w'.cell? ⟨g1, ix, none⟩ = some (.pointer (some ⟨p.Pb, 0, none⟩)) := (by rw [cell_blk (hkeep 28 (by unfold stillT mutT; decide) _ _ _ Hlb.out)]; exact Hla.out); have Hplay := hide hplay; clear hplay hkeep))
           go_wp2_with (go_at_call 11; refine (Hlk.out _ ps' N' vl' _ (by omega) Hplay.out).mono ?_; rintro e w'' ⟨rfl, q9, e9⟩; subst e9)
           exact ⟨⟨kk + 1, ps', N', vl', by omega, by go_num, by omega, by omega, Hplay.out.alloc (bdrew _ _)⟩, by simp [intOf]; omega⟩
       · go_wp2
         go_loopw [20] (fun i wr2 => ∃ (ii : Nat) (ps : List PD) (N : Nat) (vl : Value) (M : Nat), ii ≤ 1 ∧ i = .int .i64 ii ∧ ps.length = 1 ∧ N ≤ 2 * n + 16 * ii ∧ M ≤ n + 8 * ii ∧ Hid (PlayI W0 wr2 ps (.slice (some ⟨g1, 0, none⟩) 1 k1) w4.heap.size N vl M)) (fun i _ => 1 - (intOf i).toNat)
         case atStart => exact ⟨0, ps, N, vl, kk, Nat.zero_le _, rfl, hpl, by omega, by omega, Hpl.out⟩
         case round =>
           obtain ⟨ii, ps2, N2, vl2, M2, hii, rfl, hpl2, hN2, hM2, Hpl2⟩ := hrel
           by_cases hl2 : ii < 1
           · have hii0 : (0 : Int) ≤ ii := by omega
             have hii2 : (ii : Int) < 1 := by omega
             go_wp2
             go_loopw [21] (fun j wr3 => ∃ (jj : Nat) (ps : List PD) (N : Nat) (vl : Value) (M : Nat), jj ≤ 4 ∧ j = .int .i64 jj ∧ ps.length = 1 ∧ N ≤ 2 * n + 16 * ii + 4 * jj ∧ M ≤ n + 8 * ii + 2 * jj ∧ Hid (PlayI W0 wr3 ps (.slice (some ⟨g1, 0, none⟩) 1 k1) w4.heap.size N vl M)) (fun j _ => 4 - (intOf j).toNat)
             case atStart => exact ⟨0, ps2, N2, vl2, M2, Nat.zero_le _, rfl, hpl2, by omega, by omega, Hpl2.out⟩
             case round =>
               obtain ⟨jj, ps3, N3, vl3, M3, hjj, rfl, hpl3, hN3, hM3, Hpl3⟩ := hrel
               by_cases hl3 : jj < 4
               · obtain ⟨p3, hp3, hcl3, _⟩ := Hpl3.out.at' hpl3 (ix := ii) (by omega)
                 have hstp : ∀ (K : Int) W psX NX vlX MX pX, K = 2 ∨ K = 3 → NX ≤ 2 * n + 16 * ii + 4 * jj + 2 → MX ≤ n + 8 * ii + 2 * jj + 1 → PlayI W0 W psX (.slice (some ⟨g1, 0, none⟩) 1 k1) w4.heap.size NX vlX MX → psX[ii]? = some pX → Calls Tryz.prog 10 #[.pointer (some ⟨pX.Pb, 0, none⟩), .agg #[.int .i64 0, .int .i64 K, .int .i64 jj, .int .i64 0, .int .i64 0, .slice none 0 0], .pointer (some ⟨w4.heap.size, 0, none⟩)] W fun e w' => e = .returned (.bool true) ∧ ∃ ps' N' vl', ps'.length = psX.length ∧ N' ≤ NX + 2 ∧ PlayI W0 w' ps' (.slice (some ⟨g1, 0, none⟩) 1 k1) w4.heap.size N' vl' (MX + 1) ∧ ∀ e, stillT e → KeepT e W w' := fun K W psX NX vlX MX pX hK hNX hMX hX hpX =>
                   play_step hX hpX (by omega) (by omega) 0 K jj 0 0 (.slice none 0 0) 0 (fun _ => 0) (.inl ⟨rfl, rfl⟩) (by unfold i64; omega) (by unfold i64; omega)
                 have Hs2 := hide (hstp 2)
                 have Hs3 := hide (hstp 3)
                 clear hstp
                 go_wp2_with (first
                   | (go_at_call 10; refine (Hs2.out _ ps3 N3 vl3 M3 p3 (.inl rfl) (by omega) (by omega) Hpl3.out hp3).mono ?_; rintro e w4' ⟨rfl, ps4, N4, vl4, hpl4, hN4, hplay4, _⟩; obtain ⟨p4, hp4, hcl4, _⟩ := hplay4.at' (hpl4.trans hpl3) (ix := ii) (by omega); have Hplay4 := hide hplay4; clear hplay4 Hs2)
                   | (go_at_call 10; refine (Hs3.out w4' ps4 N4 vl4 (M3 + 1) p4 (by simp) (by omega) (by omega) Hplay4.out hp4).mono ?_; rintro e w5' ⟨rfl, ps5, N5, vl5, hpl5, hN5, hplay5, _⟩; have Hplay5 := hide hplay5; clear hplay5))
                 go_roundw
                 case rel => exact ⟨jj + 1, ps5, N5, vl5, M3 + 1 + 1, by omega, by go_num, by omega, by omega, by omega, Hplay5.out⟩
                 case measure => simp [intOf]; omega
               · by_cases h10 : 10 ≤ mo
                 · obtain ⟨p3, hp3, hcl3, _⟩ := Hpl3.out.at' hpl3 (ix := ii) (by omega)
                   obtain ⟨s1, s2, s3, hst1, hst2, hobj3⟩ := play_stats Hpl3.out hp3
                   obtain ⟨t0, t1⟩ := pair_cells hobj3
                   have hgl3 := cell_lt hcl3
                   have hd10 : decide (10 ≤ mo) = true := by simpa using h10
                   have Hst1 := hide hst1
                   have Hst2 := hide hst2
                   have Hobj3 := hide hobj3
                   have hPl3 := lt_blk hobj3
                   clear hst1 hst2 hobj3
                   go_wp2
                   go_region_held3 (fun w' => w'.cell? ⟨g1, ii, none⟩ = some (.pointer (some ⟨p3.Pb, 0, none⟩)) ∧ w'.cell? ⟨p3.Pb, 0, none⟩ = some (.pointer (some ⟨p3.g.X, 0, none⟩)) ∧ w'.cell? ⟨p3.Pb, 1, none⟩ = some (.pointer (some ⟨p3.Y, 0, none⟩))) (go_keep)
                     (first
                       | (go_at_call 12; refine (Hst1.out _ (by exact bdrew _ _)).mono ?_; rintro e w1' ⟨rfl, hb1'⟩; have HbS1 : Hid (Below wr.heap.size wr w1') := ⟨hb1'.os, hb1'.tape, hb1'.output, hb1'.size, hb1'.block⟩; obtain ⟨v0, v1⟩ := pair_cells ((HbS1.out.block _ hPl3).trans Hobj3.out); have vl1 := (HbS1.out.cell (p := ⟨g1, ii, none⟩) hgl3).trans hcl3; clear hb1')
                       | (go_at_call 13; refine (Hst2.out _ HbS1.out).mono ?_; rintro e w2' ⟨rfl, hb2'⟩; have HbS2 : Hid (Below wr.heap.size wr w2') := HbS1.out.trans (hb2'.mono HbS1.out.size); obtain ⟨v0, v1⟩ := pair_cells ((HbS2.out.block _ hPl3).trans Hobj3.out); have vl1 := (HbS2.out.cell (p := ⟨g1, ii, none⟩) hgl3).trans hcl3; clear hb2'))
                   go_wp2
                   exact ⟨⟨ii + 1, ps3, N3, vl3, M3, by omega, by go_num, hpl3, by omega, by omega, Hpl3.out.alloc HbS2.out⟩, by simp [intOf]; omega⟩
                 · have hd10 : decide (10 ≤ mo) = false := by simpa using h10
                   go_wp2
                   go_quiet (fail)
                   go_wp2
                   exact ⟨⟨ii + 1, ps3, N3, vl3, M3, by omega, by go_num, hpl3, by omega, by omega, Hpl3.out.alloc (bdrew _ _)⟩, by simp [intOf]; omega⟩
           · have hlk := looks_any _ _ _ _ Hpl2.out.book (by omega)
             have Hlk := hide hlk
             clear hlk
             go_wp2_with (go_at_call 11; refine Hlk.out.mono ?_; rintro e w'' ⟨rfl, q9, e9⟩; subst e9)
             go_ret
             exact ⟨rfl, below_drewN Hpl2.out.below q9⟩
   · have hm1 := made_wrong r1 h1
     have hm2 := made_wrong r2 h2
     have Hm1 := hide hm1
     have Hm2 := hide hm2
     clear hm1 hm2 h1 h2 hs1 hs2
     unfold Raw.agg at *
     go_enter Tryz.func6, Tryz.ntmps6
     go_wp2_with (first
       | (go_at_call 7; rw [← HWa.out]; refine (Hal.out _).mono ?_; rintro e w1 ⟨rfl, hb⟩; have Hb1 := hide (HbA.out.trans (hb.mono HbA.out.size)); have Hd1 := hide ((hb.block _ (lt_blk Hc1.out)).trans Hc1.out); have Hd2 := hide ((hb.block _ (lt_blk Hc2.out)).trans Hc2.out); obtain ⟨y0, y1, y2, y3, y4, y5, y6⟩ := cfg_cells Hd1.out; clear hb)
       | (go_at_call 8; refine (Hm1.out _).mono ?_; rintro e w2 ⟨rfl, hb⟩; have Hb2 := hide (Hb1.out.trans (hb.mono Hb1.out.size)); obtain ⟨z0, z1, z2, z3, z4, z5, z6⟩ := cfg_cells ((hb.block _ (lt_blk Hd2.out)).trans Hd2.out); clear hb Hm1)
       | (go_at_call 8; refine (Hm2.out _).mono ?_; rintro e w3 ⟨rfl, hb⟩; have Hb3 := hide (Hb2.out.trans (hb.mono Hb2.out.size)); have Hb23 := hide hb; have hs3 := Hb3.out.size; clear hb Hm2))
     have HP : Hid (PlayI W0 (w3.alloc (.cells #[.slice none 0 0] 35)) [] (.slice none 0 0) w3.heap.size 0 (.slice none 0 0) 0) := by
       exact play_start Hb3.out (w' := w3) (Below.refl _ _) (fun i p hi => by simp at hi) (fun i j p q hi => by simp at hi) (.inl ⟨rfl, rfl⟩) (by simp)
     have hlk := looks_any _ _ _ _ HP.out.book (by omega)
     have Hlk := hide hlk
     clear hlk
     have hcap := HS.out.cap
     have hcle := HS.out.le
     unfold maxLen at hcap
     go_loopw [16] (fun i wr => i = .int .i64 0 ∧ wr = w3.alloc (.cells #[.slice none 0 0] 35)) (fun _ _ => 0)
     case atStart => exact ⟨rfl, rfl⟩
     case round =>
       obtain ⟨rfl, rfl⟩ := hrel
       by_cases hn0 : (0 : Int) < n
       all_goals (
         go_wp2
         go_loopw [20] (fun i wr => i = .int .i64 0 ∧ wr = w3.alloc (.cells #[.slice none 0 0] 35)) (fun _ _ => 0)
         case atStart => exact ⟨rfl, rfl⟩
         case round =>
           obtain ⟨rfl, rfl⟩ := hrel
           go_wp2_with (go_at_call 11; refine Hlk.out.mono ?_; rintro e w'' ⟨rfl, q9, e9⟩; subst e9)
           go_ret
           exact ⟨rfl, below_drewN HP.out.below q9⟩)
end Go.Proofs.YtlmflighkkgikaaGreat
