import Derived.Deep.CutRange
import Derived.Test.YtlmflighkkgikaaGreatP06
import Derived.Test.YtlmflighkkgikaaGreatP14
import Derived.Test.YtlmflighkkgikaaGreatP30

namespace Go.Proofs.YtlmflighkkgikaaGreat
open Go.RowKit
attribute [local go_sem ↓] Go.wp_at_zero Go.wp_at_succ
theorem put_end {w W : World} {Y R : Nat} {arr : Array Value} (hO : Only (fun k => k = Y) w W) (hR : W.heap[R]? = some (.cells arr 113 (0, 0))) (hge : w.heap.size ≤ R) (hne : Y ≠ R) (a b c : Value) :
   Only (fun k => k = Y) w (((W.setCell ⟨R, 0, none⟩ a).setCell ⟨R, 1, none⟩ b).setCell ⟨R, 2, none⟩ c) ∧ (((W.setCell ⟨R, 0, none⟩ a).setCell ⟨R, 1, none⟩ b).setCell ⟨R, 2, none⟩ c).heap[Y]? = W.heap[Y]? ∧ (∀ e : TypeId, e ≠ 113 → KeepT e W (((W.setCell ⟨R, 0, none⟩ a).setCell ⟨R, 1, none⟩ b).setCell ⟨R, 2, none⟩ c)) := by
 refine ⟨((hO.setCell (fun h => absurd h (by simp; omega)) _).setCell (fun h => absurd h (by simp; omega)) _).setCell (fun h => absurd h (by simp; omega)) _, ?_, fun e he => ?_⟩
 · rw [setCell_far _ _ _ _ _ hne, setCell_far _ _ _ _ _ hne, setCell_far _ _ _ _ _ hne]
 · exact ((KeepT.setCell hR he _).trans (KeepT.setCell (setCell_blk hR _ _) he _)).trans (KeepT.setCell (setCell_blk (setCell_blk hR _ _) _ _) he _)
theorem put_own {w W : World} {Y : Nat} {cur : Array Value} (hO : Only (fun k => k = Y) w W) (hY : W.heap[Y]? = some (.cells cur 85 (0, 0))) (i : Nat) (v : Value) :
   Only (fun k => k = Y) w (W.setCell ⟨Y, i, none⟩ v) ∧ (W.setCell ⟨Y, i, none⟩ v).heap[Y]? = some (.cells (cur.setIfInBounds i v) 85 (0, 0)) ∧ (∀ e : TypeId, e ≠ 85 → KeepT e W (W.setCell ⟨Y, i, none⟩ v)) ∧ (∀ k, k ≠ Y → (W.setCell ⟨Y, i, none⟩ v).heap[k]? = W.heap[k]?) :=
 ⟨hO.setCell (fun _ => rfl) _, setCell_blk hY _ _, fun _e he => KeepT.setCell hY he _, fun _k hk => setCell_far _ _ _ _ _ hk⟩
theorem OwnTk.below {ok : Nat → Prop} {base : Nat} {w w' : World} {v : Value} {l : List (List Nat)} (h : OwnTk ok base w v l) (hb : Below w.heap.size w w') : OwnTk ok base w' v l := by
 obtain ⟨vs, h1, h2⟩ := h
 exact ⟨vs, owns_below' h1 hb, fun i hi => ⟨(h2 i hi).1.keep (KeepT.of_below hb), (h2 i hi).2⟩⟩
theorem OwnTk.keep {ok : Nat → Prop} {base : Nat} {w w' : World} {v : Value} {l : List (List Nat)} (h : OwnTk ok base w v l) (h1 : KeepT 36 w w') (h2 : KeepT 3 w w') : OwnTk ok base w' v l := by
 obtain ⟨vs, q1, q2⟩ := h
 exact ⟨vs, owns_keepT q1 h1, fun i hi => ⟨(q2 i hi).1.keep h2, (q2 i hi).2⟩⟩
theorem OwnTk.base {ok : Nat → Prop} {base base' : Nat} {w : World} {v : Value} {l : List (List Nat)} (h : OwnTk ok base w v l) (hb : base' ≤ base) : OwnTk ok base' w v l := by
 obtain ⟨vs, q1, q2⟩ := h
 exact ⟨vs, owns_base q1 hb, q2⟩
theorem OwnTk.idle {ok : Nat → Prop} {base : Nat} {w : World} {v : Value} {l : List (List Nat)} (h : OwnTk ok base w v l) : IdleI ok w v l := by
 obtain ⟨vs, ⟨h1, ⟨rfl, e⟩ | ⟨g, cap, cur, rfl, hb, hg, hn, hm, hs, ht⟩⟩, h2⟩ := h
 · exact .inl ⟨rfl, List.eq_nil_of_length_eq_zero e⟩
 · refine .inr ⟨g, 0, cap, cur, rfl, hg, hn, hm, by omega, fun i hi => ⟨vs i, ?_, h2 i hi⟩⟩
   have := congrArg (fun l => l[i]?) ht
   simp [hi] at this
   simpa using this
theorem ints_news {w W : World} {T : List Nat} {b o : Nat} (hB : Below w.heap.size w W) (hb : b < w.heap.size) (hc : ∀ j, j < T.length → w.cell? ⟨b, o + j, none⟩ = some (.int .i64 (tkI T j))) :
   ∀ (j : Nat) (u : Value), ((List.range T.length).map fun i => Value.int .i64 (tkI T i))[j]? = some u → W.cell? ((⟨b, o, none⟩ : Addr).add j) = some u := fun j u hj => by
 have hlt : j < T.length := by
   have := (List.getElem?_eq_some_iff.1 hj).1
   simpa using this
 have e : (⟨b, o, none⟩ : Addr).add j = ⟨b, o + j, none⟩ := by unfold Addr.add; split <;> simp_all
 rw [e, hB.cell (p := ⟨b, o + j, none⟩) hb, hc j hlt]
 simpa [hlt] using hj
theorem tk_append (A C : List Nat) : (List.range A.length).map (fun i => Value.int .i64 (tkI A i)) ++ (List.range C.length).map (fun i => Value.int .i64 (tkI C i)) = (List.range (A ++ C).length).map fun i => Value.int .i64 (tkI (A ++ C) i) := by
 rw [List.length_append, range_map_add]
 congr 1
 · apply List.map_congr_left
   intro i hi
   have := List.mem_range.1 hi
   unfold tkI tkN
   rw [List.getD_eq_getElem?_getD, List.getD_eq_getElem?_getD, List.getElem?_append_left this]
 · apply List.map_congr_left
   intro i hi
   unfold tkI tkN
   rw [List.getD_eq_getElem?_getD, List.getD_eq_getElem?_getD, List.getElem?_append_right (by omega), Nat.add_sub_cancel_left]
def RefPutTo (ok : Nat → Prop) (w : World) (Y d : Nat) (c : Cfg) (L : List (Int × Key)) (il : List (List Nat)) (nt : Nat) (vL vI : Value) (id : Int) (k0 : Key) (vs : Value) (T : List Nat) (e : Ending) (w' : World) : Prop :=
 Only (fun k => k = Y) w w' ∧
 ((putFull c L il k0 T nt ∧ e = .returned (.tuple #[.agg #[.int .i64 id, vs, .int .i64 k0.2], .int .i64 6]) ∧ w'.heap[Y]? = some (.cells #[.pointer (some ⟨d, 0, none⟩), vL, vI, .int .i64 (putE c L il k0 T nt).nt] 85 (0, 0))) ∨
  (¬ putFull c L il k0 T nt ∧ ∃ v vI', e = .returned (.tuple #[.agg #[.int .i64 id, v, .int .i64 (putE c L il k0 T nt).tail], .int .i64 0]) ∧ TokT w' v T ∧ okV (fun b => w.heap.size ≤ b) v ∧ OwnTk ok w.heap.size w' vI' (putLeft c L il k0 T nt) ∧
     w'.heap[Y]? = some (.cells #[.pointer (some ⟨d, 0, none⟩), vL, vI', .int .i64 (putE c L il k0 T nt).nt] 85 (0, 0))))
set_option maxRecDepth 100000 in
set_option maxHeartbeats 8000000 in
theorem refput_any (Y d : Nat) (c : Cfg) (hc : c.ok) (id : Int) (k0 : Key) (more : List Nat) (vs vt : Value) (L : List (Int × Key)) (ok : Nat → Prop) (il : List (List Nat)) (nt : Nat) (vL vI : Value) (w : World) (h : RefI ok w Y d c L il nt vL vI) (hvs : TokT w vs k0.1) (hvs0 : k0.1 = [] → vs = .slice none 0 0) (ht : Ints w vt more.length (tkI more)) (hm1 : 1 ≤ more.length) (hT2 : k0.1.length + more.length ≤ 40) (hnt : nt ≤ 5000000000000) (_hk0 : k0.2 ≤ 5000000000000) :
   Calls Tryz.prog 73 #[.pointer (some ⟨Y, 0, none⟩), .agg #[.int .i64 id, vs, .int .i64 k0.2], vt] w fun e w' => RefPutTo ok w Y d c L il nt vL vI id k0 vs (k0.1 ++ more) e w' := by
 obtain ⟨i0, hi, hz0, hz1, hz2⟩ := info_parts Tryz.info_int
 obtain ⟨i1, hi', hz0', hz1', hz2'⟩ := info_parts Tryz.info_ints2
 obtain ⟨s1, s2⟩ := hc.slots
 obtain ⟨bl1, bl2⟩ := hc.blocks
 have hYl := lt_blk h.obj
 obtain ⟨at', ct, rfl, ht1, ht2, ht3⟩ := ht
 obtain ⟨bt, ot, rfl, hbt, hct⟩ := ht3 (by omega)
 have Hct := hide hct
 clear hct ht3
 have hn0 : ((more.length : Int) == 0) = false := by rw [beq_eq_false_iff_ne]; omega
 obtain ⟨av, cv, ev, hv1, hv2⟩ := hvs.slice
 subst ev
 obtain ⟨W0, hW0⟩ : ∃ W0, W0 = (w.alloc (.cells #[.int .i64 id, .slice av k0.1.length cv, .int .i64 k0.2] 113)).alloc (.cells #[.int .i64 0, .slice none 0 0, .int .i64 0] 113) := ⟨_, rfl⟩
 have hB0 : Below w.heap.size w W0 := by rw [hW0]; exact ((Below.refl _ _).alloc (Nat.le_refl _) _).alloc (by simp) _
 have hbox : W0.heap[w.heap.size]? = some (.cells #[.int .i64 id, .slice av k0.1.length cv, .int .i64 k0.2] 113 (0, 0)) := by rw [hW0, alloc_old _ _ _ (by simp)]; exact alloc_new _ _
 have hres : W0.heap[w.heap.size + 1]? = some (.cells #[.int .i64 0, .slice none 0 0, .int .i64 0] 113 (0, 0)) := by
   rw [hW0]; have := alloc_new (w.alloc (.cells #[.int .i64 id, .slice av k0.1.length cv, .int .i64 k0.2] 113)) (.cells #[.int .i64 0, .slice none 0 0, .int .i64 0] 113); simpa using this
 have hsz0 : W0.heap.size = w.heap.size + 2 := by rw [hW0]; simp
 have HW0 := hide hW0
 clear hW0
 have Hvs := hide hvs
 have Hvs0 := hide hvs0
 have dd1 : w.cell? ⟨d, 1, none⟩ = some (.int .i64 c.slots) := by
   obtain ⟨vW, h1, _⟩ := h.dec
   rw [cell_blk h1]; rfl
 have y0 : w.cell? ⟨Y, 0, none⟩ = some (.pointer (some ⟨d, 0, none⟩)) := by rw [cell_blk h.obj]; rfl
 have hdl := h.dec.lt
 have Hh := hide h
 have bx1 : W0.cell? ⟨w.heap.size, 1, none⟩ = some (.slice av k0.1.length cv) := by rw [cell_blk hbox]; rfl
 obtain ⟨T, hT⟩ : ∃ T, T = k0.1 ++ more := ⟨_, rfl⟩
 have hTl : T.length = k0.1.length + more.length := by rw [hT]; simp
 rw [← hT]
 have HT := hide hT
 have HTl := hide hTl
 have hT1 : 1 ≤ T.length := by omega
 have hT2' : T.length ≤ 40 := by omega
 obtain ⟨U, eU⟩ : ∃ U, U = usedOf c.slots (toksOf L) := ⟨_, rfl⟩
 obtain ⟨K, eK⟩ : ∃ K, K = manyT L L.length := ⟨_, rfl⟩
 obtain ⟨N, eN⟩ : ∃ N, N = wholesOf c.slots T := ⟨_, rfl⟩
 obtain ⟨mi, emi⟩ : ∃ mi, mi = mineT L k0.2 L.length := ⟨_, rfl⟩
 have HU := hide eU
 have HK := hide eK
 have HN := hide eN
 have Hmi := hide emi
 have hub := used_bd (s := c.slots) L.length h.many (fun i hi => (h.lenAt i hi).2)
 rw [List.take_of_length_le (by rw [toksOf_len]; omega), ← eU] at hub
 have hkb := manyT_le L L.length
 have hmb := mineT_le L k0.2 L.length
 rw [← eK] at hkb
 rw [← emi] at hmb
 have hLm := h.many
 have hilb := h.ilen
 have hNb : N.length ≤ 40 := by rw [eN, wholesOf_len]; exact Nat.le_trans (Nat.div_le_self _ _) hT2'
 clear h hvs hvs0 hT hTl eU eK eN emi
 go_enter Tryz.func73, Tryz.ntmps73
 go_upto_region 4 with fail
 rw [← HW0.out]
 go_cut [8] from 27 to 30 (fun t wc => ∃ a cap, t = .slice a k0.1.length cap ∧ wc.ownsRow W0.heap.size 3 1 (.slice a k0.1.length cap) k0.1.length ((List.range k0.1.length).map fun i => .int .i64 (tkI k0.1 i)) ∧ Below W0.heap.size W0 wc)
 case first =>
   by_cases e0 : k0.1 = []
   · have ev := Hvs0.out e0
     have hl0 : k0.1.length = 0 := by rw [e0]; rfl
     rw [ev] at bx1
     have Hl0 := hide hl0
     have He0 := hide e0
     clear ev hl0 e0
     go_wp2_with (at_builtin; refine wpList_append_empty _ rfl _ _ 36 rfl 3 i0 Tryz.underlying36 hi none 0 0 rfl rfl (by omega) (fun _ => ⟨rfl, rfl⟩) ?_)
     go_meet
     rw [He0.out]
     exact ⟨none, 0, rfl, World.ownsRow_nil _ _ _ _, Below.refl _ _⟩
   · obtain ⟨bv, ov, ea, hbv, hcv⟩ : ∃ b off, av = some ⟨b, off, none⟩ ∧ b < w.heap.size ∧ ∀ j, j < k0.1.length → w.cell? ⟨b, off + j, none⟩ = some (.int .i64 (tkI k0.1 j)) := by
       obtain ⟨a', c', e, _, _, h3⟩ := Hvs.out.ints
       injection e with e1 _ _
       rw [e1]
       exact h3 (List.length_pos_iff.2 e0)
     subst ea
     have Hnews := hide (ints_news hB0 hbv hcv)
     clear hcv e0
     go_wp2_with (at_builtin; refine wpList_append_own _ rfl _ _ 36 rfl W0.heap.size 3 i0 (.int .i64 0) 1 8 Tryz.underlying36 hi hz0 hz1 hz2 rfl (by decide) (.slice none 0 0) 0 [] rfl (World.ownsRow_nil _ _ _ _) ⟨bv, ov, none⟩ k0.1.length cv ((List.range k0.1.length).map fun i => .int .i64 (tkI k0.1 i)) rfl (by simp) Hnews.out (ints_one _ _) (by unfold maxLen; omega) (by omega) (Nat.le_refl _) ?_; intro v1 W1 hown1 hgrow1 _)
     rw [List.nil_append] at hown1
     simp only [Nat.zero_add] at hown1
     obtain ⟨a1, c1, e1⟩ := owns_form hown1
     subst e1
     go_meet
     exact ⟨a1, c1, rfl, hown1, (Below.refl _ _).grown hgrow1 (Nat.le_refl _) (fun k hk => by cases hk)⟩
 case rest =>
   obtain ⟨a1, c1, e1, hown1, hb1⟩ := hcut
   subst e1
   have hB1 := hB0.trans (hb1.mono hB0.size)
   have Hnews := hide (ints_news hB1 hbt Hct.out)
   have hsz1 := hb1.size
   clear bx1
   go_upto_region 5 with fail
   go_cut [8] from 31 to 33 (fun t W2 => ∃ b8 c8, t = .slice (some ⟨b8, 0, none⟩) T.length c8 ∧ OwnI W0.heap.size W2 b8 c8 T.length (tkI T) ∧ Below W0.heap.size W0 W2)
   case first =>
     go_wp2_with (at_builtin; refine wpList_append_own _ rfl _ _ 36 rfl W0.heap.size 3 i0 (.int .i64 0) 1 8 Tryz.underlying36 hi hz0 hz1 hz2 rfl (by decide) (.slice a1 k0.1.length c1) k0.1.length _ rfl hown1 ⟨bt, ot, none⟩ more.length ct ((List.range more.length).map fun i => .int .i64 (tkI more i)) rfl (by simp) Hnews.out (ints_one _ _) (by unfold maxLen; omega) (by omega) hsz1 ?_; intro v2 W2 hown2 hgrow2 _)
     rw [tk_append, ← List.length_append, ← HT.out] at hown2
     obtain ⟨b8, c8, ev, ho8⟩ : ∃ b cap, v2 = .slice (some ⟨b, 0, none⟩) T.length cap ∧ OwnI W0.heap.size W2 b cap T.length (tkI T) := by
       rcases OwnI.of_owns hown2 with ⟨_, h0⟩ | h0
       · omega
       · exact h0
     subst ev
     go_meet
     exact ⟨b8, c8, rfl, ho8, hb1.grown hgrow2 hsz1 (fun k hk => (hown1.lt _ hk).1)⟩
   case rest =>
   obtain ⟨b8, c8, ev, ho8, hb2⟩ := hcut
   obtain ⟨W2, hW2⟩ : ∃ W2, W2 = wc := ⟨_, rfl⟩
   rw [← hW2] at ho8 hb2 ⊢
   clear hW2
   subst ev
   have ht8 : TokT W2 (.slice (some ⟨b8, 0, none⟩) T.length c8) T := ho8.ints
   have hge8 := ho8.ge
   have hB2 : Below w.heap.size w W2 := hB0.trans (hb2.mono hB0.size)
   have hbox2 := (hb2.block _ (by omega)).trans hbox
   have hres2 := (hb2.block _ (by omega)).trans hres
   have Hbox : Hid (∀ W, Below W2.heap.size W2 W → W.heap[w.heap.size]? = some (.cells #[.int .i64 id, .slice av k0.1.length cv, .int .i64 k0.2] 113 (0, 0))) := fun W hb => (hb.block _ (lt_blk hbox2)).trans hbox2
   have Hres : Hid (∀ W, Below W2.heap.size W2 W → W.heap[w.heap.size + 1]? = some (.cells #[.int .i64 0, .slice none 0 0, .int .i64 0] 113 (0, 0))) := fun W hb => (hb.block _ (lt_blk hres2)).trans hres2
   have Ht8 := hide ht8
   have hsz2 := hB2.size
   have hsz2' : w.heap.size + 2 ≤ W2.heap.size := by have := lt_blk hres2; omega
   have hY2 : W2.cell? ⟨Y, 0, none⟩ = some (.pointer (some ⟨d, 0, none⟩)) := (hB2.cell (p := ⟨Y, 0, none⟩) hYl).trans y0
   have hd2 : W2.cell? ⟨d, 1, none⟩ = some (.int .i64 c.slots) := (hB2.cell (p := ⟨d, 1, none⟩) hdl).trans dd1
   have Hwh := hide (refwholes_any Y d c.slots (.slice av k0.1.length cv) k0.1 W2 hY2 hd2 (by omega) (by omega) (Hvs.out.keep (KeepT.of_below hB2)) s1 (by omega) (by omega))
   have bx2 : W2.cell? ⟨w.heap.size, 1, none⟩ = some (.slice av k0.1.length cv) := by rw [cell_blk hbox2]; rfl
   clear hown1 ho8 ht8 hbox hres hb1 hB1 hbox2 hres2 hB0 Hnews hb2
   go_wp2_with fail
   refine Hwh.out.mono ?_
   rintro e W3 ⟨r3, rfl, hr3, hb3⟩
   obtain ⟨a3, c3, e3⟩ := hr3.len
   subst e3
   obtain ⟨o, eo⟩ : ∃ o, o = (wholesOf c.slots k0.1).length := ⟨_, rfl⟩
   rw [← eo]
   have Ho : Hid (o = k0.1.length / c.slots) := by show _ = _; rw [eo, wholesOf_len]
   clear Hwh hr3 eo bx2
   have hB3 := hB2.trans (hb3.mono hsz2)
   have Hwh := hide (refwholes_any Y d c.slots _ T W3 ((hb3.cell (p := ⟨Y, 0, none⟩) (show Y < W2.heap.size by omega)).trans hY2) ((hb3.cell (p := ⟨d, 1, none⟩) (show d < W2.heap.size by omega)).trans hd2) (by have := hb3.size; omega) (by have := hb3.size; omega) (Ht8.out.keep (KeepT.of_below hb3)) s1 (by omega) (by omega))
   rw [← HN.out] at Hwh
   go_wp2_with fail
   refine Hwh.out.mono ?_
   rintro e W4 ⟨r4, rfl, hr4, hb4'⟩
   obtain ⟨a4, c4, e4⟩ := hr4.len
   subst e4
   have hb4 := hb3.trans (hb4'.mono hb3.size)
   have hB4 := hB3.trans (hb4'.mono hB3.size)
   have Hus := hide (refused_any Y d c hc L ok il nt vL vI W4 (Hh.out.below hB4))
   rw [← HU.out] at Hus
   clear Hwh hb3 hB3
   go_wp2_with fail
   refine Hus.out.mono ?_
   rintro e W5 ⟨r5, rfl, hr5, hb5'⟩
   obtain ⟨a5, c5, e5⟩ := hr5.len
   subst e5
   have hb5 := hb4.trans (hb5'.mono hb4.size)
   have hB5 := hB4.trans (hb5'.mono hB4.size)
   have hr45 := hr4.row.below hb5'
   have Hst := hide (refstats_any Y d c hc L ok il nt vL vI W5 (Hh.out.below hB5))
   rw [← HU.out, ← HK.out] at Hst
   clear Hus hb4 hB4 hr4 hb5' hb4'
   go_wp2_with fail
   refine Hst.out.mono ?_
   rintro e W6 ⟨rfl, hb6'⟩
   have hb6 := hb5.trans (hb6'.mono hb5.size)
   have hB6 := hB5.trans (hb6'.mono hB5.size)
   have hr46 := hr45.below hb6'
   have hr56 := hr5.row.below hb6'
   clear Hst hb5 hB5 hr45 hr5 hb6'
   go_upto_region 10 with fail
   obtain ⟨W7, hW7⟩ : ∃ W7, W7 = W6.alloc (.cells #[.int .i64 ((c.blocks : Int) - ((U.length : Int) + K) - il.length), .int .i64 il.length, .int .i64 ((U.length : Int) + K)] 42) := ⟨_, rfl⟩
   rw [← hW7]
   have hb7' : Below W6.heap.size W6 W7 := by rw [hW7]; exact (Below.refl _ _).alloc (Nat.le_refl _) _
   have hst7 : W7.heap[W6.heap.size]? = some (.cells #[.int .i64 ((c.blocks : Int) - ((U.length : Int) + K) - il.length), .int .i64 il.length, .int .i64 ((U.length : Int) + K)] 42 (0, 0)) := by rw [hW7]; exact alloc_new _ _
   have hb7 := hb6.trans (hb7'.mono hb6.size)
   have hB7 := hB6.trans (hb7'.mono hB6.size)
   have hr47 := hr46.below hb7'
   have hr57 := hr56.below hb7'
   have hsz7 : W2.heap.size ≤ W6.heap.size ∧ W6.heap.size < W7.heap.size := ⟨hb6.size, lt_blk hst7⟩
   have hbox7 := Hbox.out W7 hb7
   have hres7 := Hres.out W7 hb7
   have hobj7 : W7.heap[Y]? = some (.cells #[.pointer (some ⟨d, 0, none⟩), vL, vI, .int .i64 nt] 85 (0, 0)) := (hB7.block Y hYl).trans Hh.out.obj
   have b0 : W7.cell? ⟨w.heap.size, 0, none⟩ = some (.int .i64 id) := by rw [cell_blk hbox7]; rfl
   have b1 : W7.cell? ⟨w.heap.size, 1, none⟩ = some (.slice av k0.1.length cv) := by rw [cell_blk hbox7]; rfl
   have b2 : W7.cell? ⟨w.heap.size, 2, none⟩ = some (.int .i64 k0.2) := by rw [cell_blk hbox7]; rfl
   have Hti := hide (reftails_any Y d k0.2 c L ok il nt vL vI W7 (Hh.out.below hB7))
   rw [← HK.out, ← Hmi.out] at Hti
   obtain ⟨kp0, ekp⟩ : ∃ kp0, kp0 = decide (0 < k0.2 ∧ mi = 1) := ⟨_, rfl⟩
   have Hkp := hide ekp
   clear hb6 hB6 hr46 hr56 hb7' ekp hW7
   go_upto_region 11 with (first | (go_at_call 33; refine Calls_use Hti.out ?_) | fail)
   go_cut [15] from 52 to 58 (fun k wd => k = .bool kp0 ∧ wd = W7)
   case first =>
     by_cases e1 : 0 < k0.2
     · by_cases e2 : mi = 1
       · have ek : kp0 = true := by rw [Hkp.out]; simp [e1, e2]
         have m1 : ((mi : Int) == 1) = true := by rw [beq_iff_eq]; omega
         have Hek := hide ek
         clear ek
         go_wp2
         go_meet
         exact ⟨by rw [Hek.out], rfl⟩
       · have ek : kp0 = false := by rw [Hkp.out]; simp [e2]
         have m1 : ((mi : Int) == 1) = false := by rw [beq_eq_false_iff_ne]; omega
         have Hek := hide ek
         clear ek
         go_wp2
         go_meet
         exact ⟨by rw [Hek.out], rfl⟩
     · have ek : kp0 = false := by rw [Hkp.out]; simp [e1]
       have Hek := hide ek
       clear ek
       go_wp2
       go_meet
       exact ⟨by rw [Hek.out], rfl⟩
   case rest =>
   obtain ⟨rfl, ew⟩ := hcut
   rw [ew]
   clear ew
   have hri7 := (Hh.out.idle.below hB7).row
   obtain ⟨aI, cI, eI⟩ : ∃ a cap, vI = .slice a il.length cap := by
     obtain ⟨_, ⟨a, cap, e, _⟩, _⟩ := hri7
     exact ⟨a, cap, e⟩
   subst eI
   have y2 : W7.cell? ⟨Y, 2, none⟩ = some (.slice aI il.length cI) := by rw [cell_blk hobj7]; rfl
   have hYl7 : Y < W7.heap.size := lt_blk hobj7
   have hoN : o ≤ N.length := by
     rw [Ho.out, HN.out, wholesOf_len, HTl.out]
     exact Nat.div_le_div_right (by omega)
   obtain ⟨vs4, ⟨a4', c4', e4', hv1, _, hv3⟩, hvT⟩ := hr47
   injection e4' with e1 e2 e3
   subst e1 e3
   have Hv3 := hide hv3
   have HvT := hide hvT
   have Hr57 := hide hr57
   have Hri7 := hide hri7
   clear hv3 hvT hr57 hri7 Hti
   go_wp2_with fail
   go_loopw [15, 16, 17, 18] (fun kp a tk i wr => ∃ j : Nat, o + j ≤ N.length ∧ i = .int .i64 ((o + j : Nat) : Int) ∧ a = .int .i64 (putTo U il N o kp0 j).anew ∧ kp = .bool (putTo U il N o kp0 j).keeps ∧ OwnToks W7.heap.size wr tk (putTo U il N o kp0 j).taken ∧ Below W7.heap.size W7 wr) (fun _ _ _ i _ => N.length - (intOf i).toNat)
   case atStart => exact ⟨0, by omega, rfl, rfl, rfl, OwnToks.nil _ _, Below.refl _ _⟩
   case round =>
     obtain ⟨j, hj, rfl, rfl, rfl, htk, hbw⟩ := hrel
     obtain ⟨hpa, hpt⟩ := putTo_le U il N o kp0 j
     have hszr := hbw.size
     by_cases hlt : o + j < N.length
     · obtain ⟨bw, ow, rfl, hbw4, hcw⟩ := Hv3.out (by omega)
       have ck := (hbw.cell (p := ⟨bw, ow + (o + j), none⟩) hbw4).trans (hcw (o + j) hlt)
       have hTk := (HvT.out (o + j) hlt).keep (KeepT.of_below hbw)
       obtain ⟨bk, ebk⟩ : ∃ bk, bk = N.getD (o + j) [] := ⟨_, rfl⟩
       rw [← ebk] at hTk
       have Hbk := hide ebk
       clear ebk hcw
       obtain ⟨k, hk⟩ : ∃ k, k = o + j := ⟨_, rfl⟩
       have Hk := hide hk
       rw [← hk] at ck hlt hTk ⊢
       clear hk
       obtain ⟨st, est⟩ : ∃ st, st = putTo U il N o kp0 j := ⟨_, rfl⟩
       have Hst : Hid (putTo U il N o kp0 (j + 1) = putStep U il N o k st) := by show _ = _; rw [est, Hk.out]; rfl
       rw [← est] at htk hpa hpt ⊢
       rw [← Hk.out] at Hbk
       clear est
       have yr := (hbw.cell (p := ⟨Y, 2, none⟩) hYl7).trans y2
       have Hinu := hide (refin_at (.slice a5 U.length c5) (vs4 k) U bk wr (Hr57.out.below hbw) hTk (by omega))
       go_wp2_with fail
       refine Hinu.out.mono ?_
       rintro e W8 ⟨rfl, q8, hW8⟩
       have hb8 : Below wr.heap.size wr W8 := by rw [hW8]; exact below_drewN (Below.refl _ _) q8
       have k2 := (hb8.cell (p := ⟨Y, 2, none⟩) (show Y < wr.heap.size by omega)).trans yr
       have kc := (hb8.cell (p := ⟨bw, ow + k, none⟩) (show bw < wr.heap.size by omega)).trans ck
       have kT := hTk.keep (KeepT.of_below hb8)
       have hbw8 := hbw.trans (hb8.mono hszr)
       have htk8 := htk.below hb8
       clear hW8 Hinu
       by_cases hin : bk ∈ U
       · have hr := inI_in hin
         have Hs : Hid (putTo U il N o kp0 (j + 1) = st) := by show _ = _; rw [Hst.out, putStep_in (by rw [← Hbk.out]; exact hin)]
         generalize inI U bk = r at hr ⊢
         clear hin
         go_wp2
         go_roundw
         case rel => exact ⟨j + 1, by have := Hk.out; omega, by rw [Hk.out]; go_num, by rw [Hs.out], by rw [Hs.out], by rw [Hs.out]; exact htk8, hbw8⟩
         case measure => simp [intOf]; omega
       · have hr := inI_out hin
         rw [hr]
         have Hini : Hid (∀ n, Calls Tryz.prog 60 #[.slice aI il.length cI, vs4 k] (W8.drewN n) fun e w' => e = .returned (.int .i64 (inI il bk)) ∧ ∃ q, w' = (W8.drewN n).drewN q) := fun n => refin_at _ (vs4 k) il bk (W8.drewN n) (Hri7.out.below (below_drewN hbw8 n)) (by exact kT) (by omega)
         have Hin := hide hin
         clear hr hin
         go_wp2_with fail
         by_cases hin2 : bk ∈ il
         · have hr := inI_in hin2
           have Hs : Hid (putTo U il N o kp0 (j + 1) = { st with taken := st.taken ++ [bk] }) := by show _ = _; rw [Hst.out, putStep_idle (by rw [← Hbk.out]; exact Hin.out) (by rw [← Hbk.out]; exact hin2), ← Hbk.out]
           generalize inI il bk = r at hr Hini
           obtain ⟨vo, hvo1, hvo2⟩ := htk8
           have Hvo2 := hide hvo2
           obtain ⟨ao, co, eo⟩ := owns_form hvo1
           subst eo
           obtain ⟨at4, ct4, et4, _, _⟩ := kT.slice
           rw [et4] at kc kT Hini
           have HkT := hide kT
           clear hin2 hvo2 kT htk
           rw [et4]
           clear et4
           go_quiet ((go_at_call 60; exact Calls.quiet_of (Hini.out _)))
           go_wp2_with (at_builtin; refine wpList_append_own _ rfl _ _ 62 rfl W7.heap.size 36 i1 _ 1 24 Tryz.underlying62 hi' hz0' hz1' hz2' rfl (by omega) _ _ _ rfl ((owns_drewN hvo1 nq).alloc _) ⟨W8.heap.size, 0, none⟩ 1 1 [.slice at4 bk.length ct4] rfl rfl (one_new (W8.drewN nq) _ _) (by intro u hu; simp at hu; subst hu; rfl) (by unfold maxLen; omega) (by omega) (by have := hbw8.size; simp; omega) ?_; intro v9 W9 hown9 hgrow9 _)
           have hk9 : KeepT 3 W8 W9 := ((KeepT.drewN W8 nq).trans (KeepT.alloc _ _)).trans (KeepT.of_grown ((owns_drewN hvo1 nq).alloc _) hgrow9 (by decide))
           have hbw9 : Below W7.heap.size W7 W9 := ((below_drewN hbw8 nq).alloc (by have := hbw8.size; simp; omega) _).grown hgrow9 (by have := hbw8.size; simp; omega) (fun g hg => (hvo1.lt g hg).1)
           have htk9 : OwnToks W7.heap.size W9 v9 (st.taken ++ [bk]) := OwnToks.push ⟨vo, hvo1, Hvo2.out⟩ vo Hvo2.out hown9 hk9 HkT.out
           clear hown9 hgrow9 hk9 hvo1
           go_wp2
           go_roundw
           case rel => exact ⟨j + 1, by have := Hk.out; omega, by rw [Hk.out]; go_num, by rw [Hs.out], by rw [Hs.out], by rw [Hs.out]; exact htk9, hbw9⟩
           case measure => simp [intOf]; omega
         · have hr := inI_out hin2
           rw [hr] at Hini
           have Hin2 := hide hin2
           clear hr hin2
           by_cases h3 : k = o ∧ st.keeps = true
           · have Hs : Hid (putTo U il N o kp0 (j + 1) = { st with keeps := false }) := by show _ = _; rw [Hst.out, putStep_keep (by rw [← Hbk.out]; exact Hin.out) (by rw [← Hbk.out]; exact Hin2.out) h3]
             obtain ⟨h3a, h3b⟩ := h3
             rw [h3b]
             have hko : ((k : Int) == (o : Int)) = true := by rw [beq_iff_eq]; omega
             clear h3a h3b
             go_quiet ((go_at_call 60; exact Calls.quiet_of (Hini.out _)))
             go_wp2
             go_roundw
             case rel => exact ⟨j + 1, by have := Hk.out; omega, by rw [Hk.out]; go_num, by rw [Hs.out], by rw [Hs.out], by rw [Hs.out]; exact htk8, below_drewN hbw8 _⟩
             case measure => simp [intOf]; omega
           · have Hs : Hid (putTo U il N o kp0 (j + 1) = { st with anew := st.anew + 1 }) := by show _ = _; rw [Hst.out, putStep_new (by rw [← Hbk.out]; exact Hin.out) (by rw [← Hbk.out]; exact Hin2.out) h3]
             by_cases hko' : k = o
             · have hkf : st.keeps = false := by
                 cases hq : st.keeps
                 · rfl
                 · exact absurd ⟨hko', hq⟩ h3
               rw [hkf]
               have hko : ((k : Int) == (o : Int)) = true := by rw [beq_iff_eq]; omega
               have Hkf := hide hkf
               clear hko' h3 hkf
               go_quiet ((go_at_call 60; exact Calls.quiet_of (Hini.out _)))
               go_wp2
               go_roundw
               case rel => exact ⟨j + 1, by have := Hk.out; omega, by rw [Hk.out]; go_num, by rw [Hs.out]; go_num, by rw [Hs.out]; exact congrArg Value.bool Hkf.out.symm, by rw [Hs.out]; exact htk8, below_drewN hbw8 _⟩
               case measure => simp [intOf]; omega
             · have hko : ((k : Int) == (o : Int)) = false := by rw [beq_eq_false_iff_ne]; omega
               clear hko' h3
               go_quiet ((go_at_call 60; exact Calls.quiet_of (Hini.out _)))
               go_wp2
               go_roundw
               case rel => exact ⟨j + 1, by have := Hk.out; omega, by rw [Hk.out]; go_num, by rw [Hs.out]; go_num, by rw [Hs.out], by rw [Hs.out]; exact htk8, below_drewN hbw8 _⟩
               case measure => simp [intOf]; omega
     · have hje : o + j = N.length := by omega
       obtain ⟨st, est⟩ : ∃ st, st = putTo U il N o kp0 j := ⟨_, rfl⟩
       have HstS : Hid (st = putS c L il k0 T) := by
         show _ = _
         unfold putS
         rw [est, HU.out, ← Ho.out, ← Hmi.out, ← Hkp.out, ← HN.out]
         congr 1
         have : N.length = T.length / c.slots := by rw [HN.out, wholesOf_len]
         omega
       rw [← est] at htk hpa hpt ⊢
       clear est
       have hobjr := (hbw.block Y hYl7).trans hobj7
       have yr3 : wr.cell? ⟨Y, 3, none⟩ = some (.int .i64 nt) := by rw [cell_blk hobjr]; rfl
       have yr0 : wr.cell? ⟨Y, 0, none⟩ = some (.pointer (some ⟨d, 0, none⟩)) := by rw [cell_blk hobjr]; rfl
       have fr3 := frozen_blk hobjr 3
       have hdr : wr.cell? ⟨d, 1, none⟩ = some (.int .i64 c.slots) := (hbw.cell (p := ⟨d, 1, none⟩) (show d < W7.heap.size by omega)).trans ((hB7.cell (p := ⟨d, 1, none⟩) hdl).trans dd1)
       have br2 : wr.cell? ⟨w.heap.size, 2, none⟩ = some (.int .i64 k0.2) := (hbw.cell (p := ⟨w.heap.size, 2, none⟩) (show w.heap.size < W7.heap.size by omega)).trans b2
       have m1 : 0 ≤ (T.length : Int) % c.slots := Int.emod_nonneg _ (by omega)
       have m2 : (T.length : Int) % c.slots < c.slots := Int.emod_lt_of_pos _ (by omega)
       have hNT : Hid (N.length = T.length / c.slots) := by show _ = _; rw [HN.out, wholesOf_len]
       obtain ⟨atk, ctk, etk⟩ := htk.len
       subst etk
       have Hje := hide hje
       clear hje
       go_upto_if 114 with fail
       go_cut [15, 16, 19] from 103 to 137 (fun kp a tl wd => ∃ E : PutE, E = putEnd (T.length % c.slots) (decide (T.length / c.slots = k0.1.length / c.slots)) k0.2 nt st ∧ kp = .bool E.keeps ∧ a = .int .i64 E.anew ∧ tl = .int .i64 E.tail ∧ Only (fun k => k = Y) wr wd ∧ (∀ e : TypeId, e ≠ 85 → KeepT e wr wd) ∧ wd.heap[Y]? = some (.cells #[.pointer (some ⟨d, 0, none⟩), vL, .slice aI il.length cI, .int .i64 E.nt] 85 (0, 0)))
       case first =>
         have hsame : Hid (decide (T.length / c.slots = k0.1.length / c.slots) = decide (N.length = o)) := by show _ = _; rw [hNT.out, Ho.out]
         by_cases hm : T.length % c.slots = 0
         · have hm' : (T.length : Int) % c.slots = 0 := by omega
           have Hm := hide hm
           clear hm
           go_wp2
           go_meet
           exact ⟨⟨st.keeps, st.anew, 0, nt⟩, by unfold putEnd; rw [if_pos Hm.out], rfl, rfl, rfl, Only.refl _ _, fun _ _ _ _ _ h => h, hobjr⟩
         · have hm' : 0 < (T.length : Int) % c.slots := by omega
           have Hm := hide hm
           clear hm
           by_cases hs : N.length = o
           · have hsb : ((N.length : Int) == (o : Int)) = true := by rw [beq_iff_eq]; omega
             have Hs := hide hs
             clear hs
             cases hk : st.keeps
             · go_wp2
               go_meet
               obtain ⟨x1, x2, x3, x4⟩ := put_own (Only.refl (fun k => k = Y) wr) hobjr 3 (.int .i64 ((nt : Int) + 1))
               refine ⟨⟨st.keeps, st.anew + 1, nt + 1, nt + 1⟩, ?_, by rw [hk], by go_num, by go_num, x1, x3, x2⟩
               unfold putEnd; rw [if_neg Hm.out, if_neg (by rw [hk]; simp)]
             · go_wp2
               go_meet
               refine ⟨⟨false, st.anew, k0.2, nt⟩, ?_, rfl, rfl, rfl, Only.refl _ _, fun _ _ _ _ _ h => h, hobjr⟩
               unfold putEnd; rw [if_neg Hm.out, if_pos ⟨by rw [hsame.out]; simpa using Hs.out, hk⟩]
           · have hsb : ((N.length : Int) == (o : Int)) = false := by rw [beq_eq_false_iff_ne]; omega
             have Hs := hide hs
             clear hs
             go_wp2
             go_meet
             obtain ⟨x1, x2, x3, x4⟩ := put_own (Only.refl (fun k => k = Y) wr) hobjr 3 (.int .i64 ((nt : Int) + 1))
             refine ⟨⟨st.keeps, st.anew + 1, nt + 1, nt + 1⟩, ?_, rfl, by go_num, by go_num, x1, x3, x2⟩
             unfold putEnd; rw [if_neg Hm.out, if_neg (by rw [hsame.out]; simp; intro h; exact absurd h Hs.out)]
       case rest =>
         obtain ⟨E, hE, rfl, rfl, rfl, hOd, hkd, hobjd⟩ := hcut
         obtain ⟨WD, hWD⟩ : ∃ WD, WD = wc := ⟨_, rfl⟩
         rw [← hWD] at hOd hkd hobjd ⊢
         clear hWD
         have HE : Hid (E = putE c L il k0 T nt) := by show _ = _; unfold putE; rw [hE, HstS.out]
         have hEb : E.anew ≤ 41 := by rw [hE]; unfold putEnd; split; (simp; omega); split <;> (simp; omega)
         clear hE hNT
         have hszd := hOd.size
         have hlt7 := hsz7.2
         have kdr : ∀ e : TypeId, e ≠ 85 → KeepT e W7 WD := fun e he => (KeepT.of_below hbw).trans (hkd e he)
         have hstd := kdr _ (by decide) _ _ _ hst7
         have hboxd := kdr _ (by decide) _ _ _ hbox7
         have hresd := kdr _ (by decide) _ _ _ hres7
         have st0 : WD.cell? ⟨W6.heap.size, 0, none⟩ = some (.int .i64 ((c.blocks : Int) - ((U.length : Int) + K) - il.length)) := by rw [cell_blk hstd]; rfl
         have st1 : WD.cell? ⟨W6.heap.size, 1, none⟩ = some (.int .i64 il.length) := by rw [cell_blk hstd]; rfl
         have bd0 : WD.cell? ⟨w.heap.size, 0, none⟩ = some (.int .i64 id) := by rw [cell_blk hboxd]; rfl
         have bd1 : WD.cell? ⟨w.heap.size, 1, none⟩ = some (.slice av k0.1.length cv) := by rw [cell_blk hboxd]; rfl
         have bd2 : WD.cell? ⟨w.heap.size, 2, none⟩ = some (.int .i64 k0.2) := by rw [cell_blk hboxd]; rfl
         have hIdl : IdleI ok WD (.slice aI il.length cI) il := (Hh.out.idle.below hB7).stays (fun a n c' e => by
           obtain ⟨cur, q⟩ := (Hh.out.idle.below hB7).own e
           rw [kdr _ (by decide) _ _ _ q, q]) (KeepOk.of (kdr _ (by decide))) (fun _ h => h)
         have htkd : TokRow WD (.slice atk st.taken.length ctk) st.taken := by
           obtain ⟨vo, q1, q2⟩ := htk
           exact OwnToks.row (base := W7.heap.size) ⟨vo, owns_keepT q1 (hkd _ (by decide)), fun i hi => (q2 i hi).keep (hkd _ (by decide))⟩
         have hOd' : Only (fun k => k = Y) w WD := (Only.of_below (hB7.trans (hbw.mono hB7.size)) _).trans hOd (fun _ _ h => h)
         have Htk := hide htkd
         have HIdl := hide hIdl
         obtain ⟨F, eF⟩ : ∃ F : Int, F = (c.blocks : Int) - ((U.length : Int) + K) - il.length := ⟨_, rfl⟩
         have hFb : -100000 ≤ F ∧ F ≤ 100 := by rw [eF]; omega
         rw [← eF] at st0
         have HF : Hid (F = putFree c L il) := by show _ = _; unfold putFree; rw [eF, HU.out, HK.out]; push_cast; rfl
         clear hIdl htkd htk eF hobj7 hbox7 hres7 hst7 b0 b1 b2 y2 hobjr yr3 yr0 fr3 hdr br2
         go_upto_if 140 with fail
         go_cut [15, 20] from 138 to 142 (fun kk h wd => kk = .bool E.keeps ∧ h = .int .i64 (F + if E.keeps then 1 else 0) ∧ wd = WD)
         case first =>
           cases hk : E.keeps
           · go_wp2
             go_meet
             exact ⟨by rw [hk], by rw [hk]; simp, rfl⟩
           · go_wp2
             go_meet
             exact ⟨by rw [hk], by rw [hk]; rfl, rfl⟩
         case rest =>
           obtain ⟨ekk, eh, ew⟩ := hcut
           subst ekk eh
           rw [ew]
           clear ew
           obtain ⟨hv, ehv⟩ : ∃ hv : Int, hv = F + if E.keeps = true then 1 else 0 := ⟨_, rfl⟩
           have Hhv : Hid (hv = putHave c L il k0 T nt) := by show _ = _; unfold putHave; rw [ehv, HF.out, HE.out]
           have hhb : -100000 ≤ hv ∧ hv ≤ 101 := by rw [ehv]; split <;> omega
           rw [← ehv]
           clear ehv
           by_cases hfull : hv + il.length - st.taken.length < E.anew
           · have Hfull : Hid (putFull c L il k0 T nt) := by show putFull c L il k0 T nt; unfold putFull; rw [← Hhv.out, ← HE.out, ← HstS.out]; exact hfull
             have r0 : WD.cell? ⟨w.heap.size + 1, 0, none⟩ = some (.int .i64 0) := by rw [cell_blk hresd]; rfl
             have r1 : WD.cell? ⟨w.heap.size + 1, 1, none⟩ = some (.slice none 0 0) := by rw [cell_blk hresd]; rfl
             have r2 : WD.cell? ⟨w.heap.size + 1, 2, none⟩ = some (.int .i64 0) := by rw [cell_blk hresd]; rfl
             have fr0 := frozen_blk hresd 0
             have fr1 := frozen_blk hresd 1
             have fr2 := frozen_blk hresd 2
             have hf' : hv + (il.length : Int) - (st.taken.length : Int) < (E.anew : Int) := hfull
             clear hfull
             go_wp2
             refine bodyPost_ret (v := .tuple #[.agg #[.int .i64 id, .slice av k0.1.length cv, .int .i64 k0.2], .int .i64 6]) ?_ rfl ?_
             · simp [results, Tryz.results73, go_sem, r0, r1, r2]
             · obtain ⟨z1, z2, z3⟩ := put_end hOd' hresd (by omega) (by omega) (.int .i64 id) (.slice av k0.1.length cv) (.int .i64 k0.2)
               exact ⟨z1, .inl ⟨Hfull.out, rfl, by rw [← HE.out]; exact z2.trans hobjd⟩⟩
           · have Hfull : Hid (¬ putFull c L il k0 T nt) := by show ¬ putFull c L il k0 T nt; unfold putFull; rw [← Hhv.out, ← HE.out, ← HstS.out]; exact hfull
             have hf' : ¬ hv + (il.length : Int) - (st.taken.length : Int) < (E.anew : Int) := hfull
             have yd2 : WD.cell? ⟨Y, 2, none⟩ = some (.slice aI il.length cI) := by rw [cell_blk hobjd]; rfl
             have hYd := lt_blk hobjd
             obtain ⟨A, eA⟩ : ∃ A : Nat, A = E.anew := ⟨_, rfl⟩
             have HA := hide eA
             rw [← eA] at hf' hEb ⊢
             clear hfull eA st0 bd1 bd2 hstd
             go_wp2
             go_loopw [20, 21, 22] (fun h l i wr => ∃ j : Nat, j ≤ il.length ∧ i = .int .i64 j ∧ h = .int .i64 (leftTo st.taken il A hv j).1 ∧ OwnTk ok WD.heap.size wr l (leftTo st.taken il A hv j).2 ∧ Below WD.heap.size WD wr) (fun _ _ i _ => il.length - (intOf i).toNat)
             case atStart => exact ⟨0, Nat.zero_le _, rfl, rfl, OwnTk.nil _ _ _, Below.refl _ _⟩
             case round =>
               obtain ⟨j, hj, rfl, rfl, hlf, hbl⟩ := hrel
               have hbd := leftTo_bd st.taken il A hv j
               have hln := leftTo_len st.taken il A hv j
               have hszl := hbl.size
               have yl2 := (hbl.cell (p := ⟨Y, 2, none⟩) hYd).trans yd2
               obtain ⟨p, ep⟩ : ∃ p, p = leftTo st.taken il A hv j := ⟨_, rfl⟩
               have Hp := hide ep
               rw [← ep] at hbd hln hlf ⊢
               clear ep
               obtain ⟨p1, p2⟩ := p
               simp only at hbd hln hlf ⊢
               by_cases hlt : j < il.length
               · obtain ⟨bI, oI, capI, curI, eI', hbI, hcp1, hcp2, hcp3, hcI⟩ := HIdl.out.resolve_left (fun h => by rw [h.2] at hlt; simp at hlt)
                 cases eI'
                 obtain ⟨vj, hvj, hTj, hoj⟩ := hcI j hlt
                 have cj : WD.cell? ⟨bI, oI + j, none⟩ = some vj := by rw [cell_blk hbI]; exact hvj
                 have cjl := (hbl.cell (p := ⟨bI, oI + j, none⟩) (lt_blk hbI)).trans cj
                 have hTl := hTj.keep (KeepT.of_below hbl)
                 obtain ⟨bj, ebj⟩ : ∃ bj, bj = il.getD j [] := ⟨_, rfl⟩
                 rw [← ebj] at hTl
                 have Hbj := hide ebj
                 have Hnx : Hid (leftTo st.taken il A hv (j + 1) = if bj ∈ st.taken then (p1, p2) else if p1 < (A : Int) then (p1 + 1, p2) else (p1, p2 ++ [bj])) := by show _ = _; rw [ebj]; conv => lhs; unfold leftTo; rw [← Hp.out]
                 clear hcI hvj hTj cj ebj
                 have Hin := hide (refin_at (.slice atk st.taken.length ctk) vj st.taken bj wr (Htk.out.below hbl) hTl (by omega))
                 go_wp2_with fail
                 refine Hin.out.mono ?_
                 rintro e W8 ⟨rfl, q8, hW8⟩
                 have hb8 : Below wr.heap.size wr W8 := by rw [hW8]; exact below_drewN (Below.refl _ _) q8
                 have k2 := (hb8.cell (p := ⟨Y, 2, none⟩) (show Y < wr.heap.size by omega)).trans yl2
                 have kc := (hb8.cell (p := ⟨bI, oI + j, none⟩) (show bI < wr.heap.size by have := lt_blk hbI; omega)).trans cjl
                 have kT := hTl.keep (KeepT.of_below hb8)
                 have hbl8 := hbl.trans (hb8.mono hszl)
                 have hlf8 := hlf.below hb8
                 clear hW8 Hin
                 by_cases hin : bj ∈ st.taken
                 · have hr := inI_in hin
                   rw [if_pos hin] at Hnx
                   generalize inI st.taken bj = r at hr ⊢
                   clear hin
                   go_wp2
                   go_roundw
                   case rel => exact ⟨j + 1, by omega, by go_num, by rw [Hnx.out], by rw [Hnx.out]; exact hlf8, hbl8⟩
                   case measure => simp [intOf]; omega
                 · rw [inI_out hin]
                   rw [if_neg hin] at Hnx
                   clear hin
                   by_cases hless : p1 < (A : Int)
                   · rw [if_pos hless] at Hnx
                     go_wp2
                     go_roundw
                     case rel => exact ⟨j + 1, by omega, by go_num, by rw [Hnx.out], by rw [Hnx.out]; exact hlf8, hbl8⟩
                     case measure => simp [intOf]; omega
                   · rw [if_neg hless] at Hnx
                     obtain ⟨vo, hvo1, hvo2⟩ := hlf8
                     have Hvo2 := hide hvo2
                     obtain ⟨ao, co, eo⟩ := owns_form hvo1
                     subst eo
                     obtain ⟨at4, ct4, et4, _, _⟩ := kT.slice
                     rw [et4] at kc kT hoj
                     have HkT := hide kT
                     clear hvo2 kT et4
                     have hsz8 := hbl8.size
                     go_wp2_with (at_builtin; refine wpList_append_own _ rfl _ _ 62 rfl WD.heap.size 36 i1 _ 1 24 Tryz.underlying62 hi' hz0' hz1' hz2' rfl (by omega) _ _ _ rfl (hvo1.alloc _) ⟨W8.heap.size, 0, none⟩ 1 1 [.slice at4 bj.length ct4] rfl rfl (one_new W8 _ _) (by intro u hu; simp at hu; subst hu; rfl) (by unfold maxLen; omega) (by omega) (by simp; omega) ?_; intro v9 W9 hown9 hgrow9 _)
                     have hk9 : KeepT 3 W8 W9 := (KeepT.alloc _ _).trans (KeepT.of_grown (hvo1.alloc _) hgrow9 (by decide))
                     have hbl9 : Below WD.heap.size WD W9 := (hbl8.alloc hsz8 _).grown hgrow9 (by simp; omega) (fun g hg => (hvo1.lt g hg).1)
                     have hlf9 : OwnTk ok WD.heap.size W9 v9 (p2 ++ [bj]) := OwnTk.push vo Hvo2.out hown9 hk9 HkT.out hoj
                     clear hown9 hgrow9 hk9 hvo1
                     go_wp2
                     go_roundw
                     case rel => exact ⟨j + 1, by omega, by go_num, by rw [Hnx.out], by rw [Hnx.out]; exact hlf9, hbl9⟩
                     case measure => simp [intOf]; omega
               · have hje : j = il.length := by omega
                 have Hlf : Hid (OwnTk ok WD.heap.size wr u21 (putLeft c L il k0 T nt)) := by
                   show OwnTk ok WD.heap.size wr u21 _
                   unfold putLeft
                   rw [← HstS.out, ← HE.out, ← HA.out, ← Hhv.out, ← hje, ← Hp.out]
                   exact hlf
                 have hobjl := (hbl.block Y hYd).trans hobjd
                 have hresl := (hbl.block _ (lt_blk hresd)).trans hresd
                 have fY2 := frozen_blk hobjl 2
                 have bl0 := (hbl.cell (p := ⟨w.heap.size, 0, none⟩) (lt_blk hboxd)).trans bd0
                 have r0 : wr.cell? ⟨w.heap.size + 1, 0, none⟩ = some (.int .i64 0) := by rw [cell_blk hresl]; rfl
                 have r1 : wr.cell? ⟨w.heap.size + 1, 1, none⟩ = some (.slice none 0 0) := by rw [cell_blk hresl]; rfl
                 have r2 : wr.cell? ⟨w.heap.size + 1, 2, none⟩ = some (.int .i64 0) := by rw [cell_blk hresl]; rfl
                 have fr0 := frozen_blk hresl 0
                 have fr1 := frozen_blk hresl 1
                 have fr2 := frozen_blk hresl 2
                 have hne1 : w.heap.size ≠ Y := by omega
                 have hne2 : w.heap.size + 1 ≠ Y := by omega
                 obtain ⟨al, cl, el⟩ := Hlf.out.toks.len
                 clear hlf hje
                 subst el
                 go_wp2
                 refine bodyPost_ret (v := .tuple #[.agg #[.int .i64 id, .slice (some ⟨b8, 0, none⟩) T.length c8, .int .i64 E.tail], .int .i64 0]) ?_ rfl ?_
                 · simp [results, Tryz.results73, go_sem, r0, r1, r2]
                 · have hOr : Only (fun k => k = Y) w wr := hOd'.trans (Only.of_below hbl _) (fun _ _ h => h)
                   obtain ⟨m1, m2, m3, m4⟩ := put_own hOr hobjl 2 (.slice al (putLeft c L il k0 T nt).length cl)
                   have hresm := (m4 _ hne2).trans hresl
                   obtain ⟨z1, z2, z3⟩ := put_end m1 hresm (by omega) (by omega) (.int .i64 id) (.slice (some ⟨b8, 0, none⟩) T.length c8) (.int .i64 E.tail)
                   have hki : ∀ e : TypeId, e ≠ 85 → e ≠ 113 → KeepT e wr _ := fun e h1 h2 => (m3 e h1).trans (z3 e h2)
                   refine ⟨z1, .inr ⟨Hfull.out, _, _, by rw [← HE.out], ?_, ?_, ?_, by rw [← HE.out]; exact z2.trans m2⟩⟩
                   · exact (((Ht8.out.keep (KeepT.of_below hb7)).keep (kdr _ (by decide))).keep (KeepT.of_below hbl)).keep (hki _ (by decide) (by decide))
                   · intro a n cp e
                     cases e
                     show w.heap.size ≤ b8
                     omega
                   · exact (Hlf.out.keep (hki _ (by decide) (by decide)) (hki _ (by decide) (by decide))).base (by have := hOd'.size; exact this)
end Go.Proofs.YtlmflighkkgikaaGreat
