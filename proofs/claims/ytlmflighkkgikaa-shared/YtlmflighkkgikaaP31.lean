import Derived.Test.YtlmflighkkgikaaP25
import Derived.Test.YtlmflighkkgikaaP30

namespace Go.Proofs.Ytlmflighkkgikaa
open Go.RowKit
attribute [local go_sem ↓] Go.wp_at_zero Go.wp_at_succ
theorem two_new' (w : World) (a b : Value) (t : TypeId) : ∀ (j : Nat) (u : Value), [a, b][j]? = some u → (w.alloc (.cells #[a, b] t)).cell? ((⟨w.heap.size, 0, none⟩ : Addr).add j) = some u := World.news_of_block (cs := #[a, b]) (heap_alloc_new w _)
def FillTo (F ok : Nat → Prop) (w : World) (g : Parts) (c : Cfg) (H : List Key) (il : List (List Nat)) (B : Key → Option Nat) (free : List Nat) (b : Nat) (k : Key) (e : Ending) (w' : World) : Prop :=
 e = .returned (.pointer (some ⟨b, 0, none⟩)) ∧ StoreI (grow F w) ok w' g c (k :: H) il (fun i => if i = k then some b else B i) free ∧ Moves F w w'
set_option maxRecDepth 100000 in
set_option maxHeartbeats 4000000 in
theorem fill_any (F ok : Nat → Prop) (g : Parts) (c : Cfg) (hc : c.ok) (H : List Key) (il : List (List Nat)) (B : Key → Option Nat) (free : List Nat) (b : Nat) (T : List Nat) (vt vk : Value) (mk f en t : Nat) (w : World)
   (h : StoreI F ok w g c ((T.take f, 0) :: H) il B (free ++ [b])) (hT : TokT w vt T) (hK : CellsI 0 ok w vk c T mk) (hmk : mk ≤ 1000) (htok : ∀ t ∈ T, t < c.vocab) (hl : T.length ≤ 40) (hok : ∀ b, w.heap.size ≤ b → ok b) (hSM : ¬ F g.SM ∧ g.SM < w.heap.size)
   (hf : f % c.slots = 0) (hfl : f < T.length) (hen : (f + c.slots ≤ T.length ∧ en = f + c.slots ∧ t = 0) ∨ (T.length < f + c.slots ∧ en = T.length ∧ t ≠ 0)) (hlive : ¬ live c.slots ((T.take f, 0) :: H) il (T.take en, t)) :
   Calls Try.prog 67 #[.pointer (some ⟨g.X, 0, none⟩), blkV (B (T.take f, 0)), vt, vk] w fun e w' => FillTo F ok w g c H il B free b (T.take en, t) e w' := by
 obtain ⟨i0, hi, hz0, hz1, hz2⟩ := info_parts Try.info_cell
 obtain ⟨i1, hi', hz0', hz1', hz2'⟩ := info_parts Try.info_slot
 obtain ⟨s1, s2⟩ := hc.slots
 obtain ⟨v1, v2⟩ := hc.vocab
 obtain ⟨hil, hfree⟩ := h.ilen hc
 simp only [List.length_append, List.length_singleton] at hfree
 obtain ⟨vI, vF, N, Mm, hlow⟩ := h.low
 obtain ⟨arr, o0, o1, o2, o3, o4, o5, o6, o7, o8⟩ := hlow.obj
 have c8 : w.cell? ⟨g.X, 8, none⟩ = some (.pointer (some ⟨g.PL, 0, none⟩)) := by rw [cell_blk o0]; exact o6
 have hbd : f < en ∧ en ≤ T.length ∧ en ≤ f + c.slots := by omega
 obtain ⟨bd1, bd2, bd3⟩ := hbd
 have hpk : pred c.slots (T.take en, t) = (T.take f, 0) := pred_fill s1 hf bd1 bd3 bd2
 have hTake := pooltake_any g.PL b vF free w hlow.pool (by omega)
 have hmin := fun w ts ty => run_min Try.prog w ts ty ((f : Int) + c.slots) T.length en (by omega)
 obtain ⟨pa, hvp⟩ : ∃ pa, blkV (B (T.take f, 0)) = .pointer pa := by
   cases B (T.take f, 0) with
   | none => exact ⟨none, rfl⟩
   | some x => exact ⟨_, rfl⟩
 rw [hvp]
 have Hvp := hide hvp
 have HTake := hide hTake
 have Hlow := hide hlow
 have Hen := hide hen
 have Hlive := hide hlive
 have Hpk := hide hpk
 have HT := hide hT
 have HK := hide hK
 have Hh := hide h
 have Hok := hide hok
 have hlf : (T.take f).length = f := by simp; omega
 have Hlf := hide hlf
 obtain ⟨ap, cp, rfl, hp1, hp2⟩ := hT.slice
 obtain ⟨ak, ck, rfl⟩ := hK.form
 obtain ⟨hk1, hk2⟩ := hK.cap
 unfold maxLen at hp2 hk2
 have Htk : Hid (∀ j, j < T.length → tkN T j < c.vocab) := fun j hj => htok _ (by unfold tkN; rw [List.getD_eq_getElem?_getD]; simp [hj])
 clear hTake hlow hen hlive hpk hT hK h hok hvp hlf o0 o1 o2 o3 o4 o5 o6 o7 o8
 go_enter Try.func67, Try.ntmps67
 go_wp2_with fail
 refine HTake.out.mono ?_
 rintro e w1 ⟨rfl, vF', hP1, hO1, hsz1, hown1⟩
 obtain ⟨hL1, hM1, hb1⟩ := Hlow.out.took vF' hP1 hO1 hown1
 unfold ptrV
 have k1 : w1.cell? ⟨b, 1, none⟩ = some (.pointer none) := by rw [cell_blk hb1]; rfl
 have k2 : w1.cell? ⟨b, 2, none⟩ = some (.int .i64 0) := by rw [cell_blk hb1]; rfl
 have fk1 := frozen_blk hb1 1
 have fk2 := frozen_blk hb1 2
 have hnf : b ∉ free := by
   have := Hlow.out.pool.nodup
   rw [List.nodup_append] at this
   exact fun hm => this.2.2 b hm b (by simp) rfl
 have hnB : ∀ k, B k ≠ some b := fun k => Hlow.out.freeB b (by simp) k
 obtain ⟨W0, hW0⟩ : ∃ W0, W0 = (w1.setCell ⟨b, 1, none⟩ (.pointer pa)).setCell ⟨b, 2, none⟩ (.int .i64 1) := ⟨_, rfl⟩
 have hO0 : Only (fun j => j = b) w1 W0 := by rw [hW0]; exact ((Only.refl (fun j => j = b) w1).setCell (p := ⟨b, 1, none⟩) (fun _ => rfl) _).setCell (p := ⟨b, 2, none⟩) (fun _ => rfl) _
 have hL0 := hL1.other hb1 hnf hnB hO0
 have hb0 : W0.heap[b]? = some (.cells #[.slice none 0 0, .pointer pa, .int .i64 1] 87 (0, 0)) := by rw [hW0, setCell_blk (setCell_blk hb1 _ _)]; rfl
 have hsz0 : W0.heap.size = w.heap.size := by rw [hW0]; simp [World.setCell, hsz1]
 have hM0 : Moves F w W0 := hM1.trans (Moves.of_only hO0 (fun k hk => .inl (by rw [hk]; exact Hlow.out.fE b (by simp))) (fun k cur e fr hk hh => by rw [hk, hb1] at hh; injection hh with hh; injection hh with _ hh _; exact .inr (.inr (.inr (.inl hh.symm)))))
 have hseq : SeqAt ok W0 c B (users c.slots ((T.take f, 0) :: H)) (T.take f, 0) := ⟨hL0.blks, fun e => Hh.out.nil e, fun e => Hh.out.head e⟩
 have hcells := cells_any ok c hc B _ (T.take f, 0) W0 hseq
 simp only [Hlf.out] at hcells
 rw [Hvp.out] at hcells
 have Hcells := hide hcells
 have HW0 := hide hW0
 have HL0 := hide hL0
 have HM0 := hide hM0
 clear hcells hseq hW0 hL0 hL1 hM0 hM1 hO1 hP1 hown1 HTake hO0
 go_wp2_with (rw [← HW0.out]; refine Hcells.out.mono ?_)
 rintro e w3 ⟨r, rfl, hC3, hb3⟩
 replace hC3 := hC3.congr (T' := T) (fun j hj => tkN_take T f j hj)
 obtain ⟨ac, cc, rfl⟩ := hC3.form
 obtain ⟨arr3, o0, o1, o2, o3, o4, o5, o6, o7, o8⟩ := (HL0.out.below hb3).obj
 have x1 : w3.cell? ⟨g.X, 1, none⟩ = some (.int .i64 c.slots) := by rw [cell_blk o0]; exact o2
 have hb3' := (hb3.block b (lt_blk hb0)).trans hb0
 clear o0 o1 o2 o3 o4 o5 o6 o7 o8 Hcells
 go_wp2
 go_loopw [10, 12] (fun cs p wr => ∃ (q : Nat) (v : Value) (ac : Option Addr) (cc : Nat), f ≤ q ∧ q ≤ en ∧ p = .int .i64 q ∧ cs = .slice ac q cc ∧ CellsI W0.heap.size ok wr (.slice ac q cc) c T q ∧ wr.heap[b]? = some (.cells #[v, .pointer pa, .int .i64 1] 87 (0, 0)) ∧ SlotsI W0.heap.size ok wr v c T f (q - f) ∧ Only (fun k => k = b) W0 wr) (fun _ p _ => en - (intOf p).toNat)
 case atStart => exact ⟨f, .slice none 0 0, ac, cc, Nat.le_refl _, by omega, rfl, rfl, hC3, hb3', ⟨fun _ => undef, by rw [Nat.sub_self]; exact World.ownsRow_nil _ _ _ _, fun i hi => absurd hi (by omega)⟩, Only.of_below hb3 _⟩
 case round =>
   clear hC3 hb3 hb3' x1
   obtain ⟨q, v, ac, cc, hq1, hq2, rfl, rfl, hC, hvB, hS, hO⟩ := hrel
   have kW : ∀ e, e ≠ 87 → KeepT e W0 wr := fun e he => hO.keep (fun k cur fr hk hh => by rw [hk, hb0] at hh; injection hh with hh; injection hh with _ hh _; exact he hh.symm)
   have hLr := HL0.out.other hb0 hnf hnB hO
   have hszW := hO.size
   have hTr : TokT wr (.slice ap T.length cp) T := (HT.out.keep (HM0.out.kept _ (by unfold mutT; decide))).keep (kW _ (by decide))
   by_cases hlt : q < en
   · obtain ⟨bt, ot, rfl, hbt, hct⟩ : ∃ b off, ap = some ⟨b, off, none⟩ ∧ b < wr.heap.size ∧ ∀ j, j < T.length → wr.cell? ⟨b, off + j, none⟩ = some (.int .i64 (tkI T j)) := by
       obtain ⟨a', c', e, _, _, h3⟩ := hTr.ints
       injection e with e1 _ _
       subst e1
       exact h3 (by omega)
     have ct := hct q (by omega)
     unfold tkI at ct
     obtain ⟨curt, frt, hbtT⟩ : ∃ cur fr, wr.heap[bt]? = some (.cells cur 3 fr) := by
       obtain ⟨a', c', e, _, _, h3⟩ := hTr
       injection e with e1 _ _
       obtain ⟨b', off', cur, fr, ea, hb, _⟩ := h3 (by omega)
       rw [← e1] at ea
       injection ea with ea
       injection ea with ea _ _
       exact ⟨cur, fr, by rw [ea]; exact hb⟩
     have hqT : q < T.length := by omega
     obtain ⟨arr3, o0, o1, o2, o3, o4, o5, o6, o7, o8⟩ := hLr.obj
     have x7 : wr.cell? ⟨g.X, 7, none⟩ = some (.pointer (some ⟨g.M, 0, none⟩)) := by rw [cell_blk o0]; exact o5
     obtain ⟨xs, hown0, hxs⟩ := hC
     obtain ⟨S, hslo0, hSs⟩ := hS
     have Hxs := hide hxs
     have HS := hide hSs
     have hpast := (show CellsI W0.heap.size ok wr (.slice ac q cc) c T q from ⟨xs, hown0, hxs⟩).past (Nat.le_refl _)
     have Hpass := hide (fun W (hB : Below wr.heap.size wr W) => pass_new c hc g.M (tkN T q) q _ g.vE g.vH g.bL g.oL g.cL _ _ W (hLr.below hB).model.model (hpast.below hB) (Htk.out q (by omega)) (by omega) (memOf_bd c (tkN T) q).1 (memOf_bd c (tkN T) q).2)
     have HLr := hide hLr
     have hXl := lt_blk o0
     obtain ⟨av, cv, ev⟩ := owns_form hslo0
     subst ev
     clear hct hxs hSs hpast hLr o0 o1 o2 o3 o4 o5 o6 o7 o8
     by_cases hkn : q < mk
     · have hKr := (HK.out.keepT (HM0.out.kept _ (by unfold mutT; decide)) (HM0.out.kept _ (by unfold mutT; decide)) (HM0.out.kept _ (by unfold mutT; decide))).keepT (kW _ (by decide)) (kW _ (by decide)) (kW _ (by decide))
       obtain ⟨gk, cvk, rfl, hgk, ckk, hcell⟩ := hKr.cell q hkn
       obtain ⟨bc, ccap, _, _, ecv, _⟩ := id hcell
       subst ecv
       have Hcell := hide hcell
       clear hKr hcell
       have hown0' := hown0
       have hslo4 := hslo0
       have hvB4 := hvB
       have ct4 := ct
       have hbt4 := hbtT
       obtain ⟨w4, hw4⟩ : ∃ w4, w4 = wr := ⟨_, rfl⟩
       have hb4 : Below wr.heap.size wr w4 := by rw [hw4]; exact Below.refl _ _
       rw [← hw4] at hown0' hslo4 hvB4 ct4 ckk hgk Hcell hbt4 ⊢
       have hszW4 := hb4.size
       clear hw4
       -- the cell is laid behind the others, and into the block
       have hown2 := hown0'
       go_wp2_with (at_builtin; refine wpList_append_own _ rfl _ _ 78 rfl W0.heap.size 105 i0 (.slice none 0 0) 1 24 Try.underlying78 hi hz0 hz1 hz2 rfl (by decide) _ _ _ rfl (hown2.alloc _) ⟨w4.heap.size, 0, none⟩ 1 1 [.slice (some ⟨bc, 0, none⟩) c.layers ccap] rfl rfl (one_new w4 _ _) (by intro u hu; simp at hu; subst hu; rfl) (by unfold maxLen; omega) (by omega) (by simp; omega) ?_; intro v5 w5 hown5 hgrow5 _)
       have hvB5 : w5.heap[b]? = some (.cells #[.slice av (q - f) cv, .pointer pa, .int .i64 1] 87 (0, 0)) := (hgrow5.block _ (by simp; have := lt_blk hvB4; omega) (fun e => by have := (hown2.lt _ e.symm).1; have := lt_blk hb0; omega)).trans ((alloc_old _ _ _ (lt_blk hvB4)).trans hvB4)
       have hslo5 := owns_keepT (owns_keepT hslo4 (KeepT.alloc _ _)) (KeepT.of_grown (hown2.alloc _) hgrow5 (by decide))
       have hsz5 := hgrow5.size
       simp at hsz5
       have b0c : w5.cell? ⟨b, 0, none⟩ = some (.slice av (q - f) cv) := by rw [cell_blk hvB5]; rfl
       have fb0 := frozen_blk hvB5 0
       have ct5 : w5.cell? ⟨bt, ot + q, none⟩ = some (.int .i64 (tkN T q)) := by
         have := hgrow5.cell (a := ⟨bt, ot + q, none⟩) ((World.cell?_alloc_past _ _ _ (lt_blk hbt4)).trans ct4) (owns_ne hown2 hbt4 (by decide))
         exact this
       have hbl5 := lt_blk hvB5
       have hneb : some b ≠ (Value.slice av (q - f) cv).ownBlock := owns_ne hslo5 hvB5 (by decide)
       clear Hpass
       go_wp2_with fail
       go_region_law ((refine step_append_lies _ (by rfl) _ _ _ (by rfl) W0.heap.size 118 i1 _ 2 32 Try.underlying85 hi' hz0' hz1' hz2' rfl (by omega) (.slice av (q - f) cv) (q - f) _ (by simp [Act.eval]) ((hslo5.alloc _).drew) ⟨w5.heap.size, 0, none⟩ 1 1 [.int .i64 (tkN T q), .slice (some ⟨bc, 0, none⟩) c.layers ccap] (by simp [Act.eval]) (by rfl) (two_new' w5 _ _ _) (by intro u hu; simp at hu; rcases hu with rfl | rfl <;> rfl) (by omega) (by unfold maxLen; omega) (by omega) (by simp; omega) (w5.heap.size + 1) (by simp) ?_; intro gg cap w6 hown6 hgrow6 hat hlt6; have z1 := hgrow6.cell ((World.cell?_alloc_past _ _ _ hbl5).trans b0c) hneb; have z2 := (World.frozen?_of_block (hgrow6.block b (by simp; omega) hneb)).trans ((World.frozen?_alloc_past _ _ _ hbl5).trans fb0)))
       all_goals
         have k4 : ∀ e : TypeId, KeepT e wr w4 := fun e => KeepT.of_below hb4
         have k45 : ∀ e : TypeId, e ≠ 105 → KeepT e w4 w5 := fun e he => (KeepT.alloc _ _).trans (KeepT.of_grown (hown2.alloc _) hgrow5 he)
         have k56 : ∀ e : TypeId, e ≠ 118 → KeepT e w5 w6 := fun e he => ((KeepT.alloc _ _).trans (KeepT.drewN _ 1)).trans (KeepT.of_grown ((hslo5.alloc _).drew) hgrow6 he)
         have hvB6 : w6.heap[b]? = some (.cells #[.slice av (q - f) cv, .pointer pa, .int .i64 1] 87 (0, 0)) := (hgrow6.block b (by simp; omega) hneb).trans ((alloc_old _ _ _ hbl5).trans hvB5)
         have k67 : ∀ e : TypeId, e ≠ 87 → KeepT e w6 (w6.setCell ⟨b, 0, none⟩ (.slice (some ⟨gg, 0, none⟩) (q - f + 1) cap)) := fun e he => KeepT.setCell hvB6 he _
         have hC5 := CellsI.push hown5 (fun t ht => (Hxs.out t ht).keep ((k4 _).trans (k45 _ (by decide))) ((k4 _).trans (k45 _ (by decide)))) (Hcell.out.keep (k45 _ (by decide)) (k45 _ (by decide)))
         have hqf : f + (q - f) = q := by omega
         have hS6 : SlotsI W0.heap.size ok w6 (.slice (some ⟨gg, 0, none⟩) (q - f + 1) cap) c T f (q - f + 1) := SlotsI.push (S := S) (cv := .slice (some ⟨bc, 0, none⟩) c.layers ccap) (by rw [hqf]; exact hown6) (fun i hi => ⟨(HS.out i hi).1, (HS.out i hi).2.keep (((k4 _).trans (k45 _ (by decide))).trans (k56 _ (by decide))) (((k4 _).trans (k45 _ (by decide))).trans (k56 _ (by decide)))⟩) (by rw [hqf]; exact Hcell.out.keep ((k45 _ (by decide)).trans (k56 _ (by decide))) ((k45 _ (by decide)).trans (k56 _ (by decide))))
         have hO4 : Only (fun k => k = b) W0 w4 := hO.trans (Only.of_below hb4 (fun _ => False)) (fun _ _ h => h.elim)
         have hO6 : Only (fun k => k = b) W0 w6 := ((((hO4.alloc _).grown hgrow5 (fun x hx hlt => by have := (hown2.lt _ hx).1; omega)).alloc _).drewN 1).grown hgrow6 (fun x hx hlt => by have := (hslo5.lt _ hx).1; omega)
         have hO7 := hO6.setCell (p := ⟨b, 0, none⟩) (fun _ => rfl) (.slice (some ⟨gg, 0, none⟩) (q - f + 1) cap)
         have hvB7 : (w6.setCell ⟨b, 0, none⟩ (.slice (some ⟨gg, 0, none⟩) (q - f + 1) cap)).heap[b]? = some (.cells #[.slice (some ⟨gg, 0, none⟩) (q - f + 1) cap, .pointer pa, .int .i64 1] 87 (0, 0)) := by rw [setCell_blk hvB6]; rfl
         have hC7 := (hC5.keepT (k56 _ (by decide)) (k56 _ (by decide)) (k56 _ (by decide))).keepT (k67 _ (by decide)) (k67 _ (by decide)) (k67 _ (by decide))
         have hS7 := hS6.keep (k67 _ (by decide)) (k67 _ (by decide)) (k67 _ (by decide))
         obtain ⟨a7, cap7, e7⟩ := hC7.form
         subst e7
         clear hC5 hS6 hO4 hO6 hown5 hown6 hgrow5 hgrow6 hvB6 hvB5 hslo5 k45 k56 k67 k4 hat hown2
         go_wp2
         go_roundw
         case rel => exact ⟨q + 1, _, a7, cap7, by omega, by omega, by go_num, rfl, hC7, hvB7, by rw [show q + 1 - f = q - f + 1 by omega]; exact hS7, hO7⟩
         case measure => simp [intOf]; omega
     · have hkn2 : ¬ (q : Int) < (mk : Int) := by omega
       have h7 : wr.cell? ⟨g.X, 7, none⟩ = some (.pointer (some ⟨g.M, 0, none⟩)) := x7
       go_wp2_with fail
       go_region_held3 (fun w' => w'.cell? ⟨g.X, 7, none⟩ = some (.pointer (some ⟨g.M, 0, none⟩)) ∧ w'.cell? ⟨bt, ot + q, none⟩ = some (.int .i64 (tkN T q)))
         (first | (exact ⟨z7, zt⟩) | go_keep)
         (first | (go_at_call 56; refine (Hpass.out wr.drew ((Below.refl _ _).drew)).mono ?_; rintro e w4 ⟨r, cell, rfl, -, hcell, hb4⟩; replace hb4 : Below wr.heap.size wr w4 := ((Below.refl _ _).drew).trans hb4; have z7 := (hb4.cell (p := ⟨g.X, 7, none⟩) hXl).trans x7; have zt := (hb4.cell (p := ⟨bt, ot + q, none⟩) hbt).trans ct; obtain ⟨bc, ccap, carr, cfr, ecell, hcr⟩ := id hcell; subst ecell))
       have hszW4 := hb4.size
       have Hcell : Hid (CellI ok w4 (.slice (some ⟨bc, 0, none⟩) c.layers ccap) c.layers c.width (kOf c (tkN T) q) (vOf c (tkN T) q)) := hcell.mono (fun x hx => Hok.out x (by have : wr.heap.size ≤ x := hx; omega))
       have hown0' := owns_below' hown0 hb4
       have hslo4 := owns_below' hslo0 hb4
       have hvB4 := (hb4.block _ (lt_blk hvB)).trans hvB
       have hbt4 := (hb4.block _ hbt).trans hbtT
       have ct4 := zt
       clear hcell hcr z7 zt
       -- the cell is laid behind the others, and into the block
       have hown2 := hown0'
       go_wp2_with (at_builtin; refine wpList_append_own _ rfl _ _ 78 rfl W0.heap.size 105 i0 (.slice none 0 0) 1 24 Try.underlying78 hi hz0 hz1 hz2 rfl (by decide) _ _ _ rfl (hown2.alloc _) ⟨w4.heap.size, 0, none⟩ 1 1 [.slice (some ⟨bc, 0, none⟩) c.layers ccap] rfl rfl (one_new w4 _ _) (by intro u hu; simp at hu; subst hu; rfl) (by unfold maxLen; omega) (by omega) (by simp; omega) ?_; intro v5 w5 hown5 hgrow5 _)
       have hvB5 : w5.heap[b]? = some (.cells #[.slice av (q - f) cv, .pointer pa, .int .i64 1] 87 (0, 0)) := (hgrow5.block _ (by simp; have := lt_blk hvB4; omega) (fun e => by have := (hown2.lt _ e.symm).1; have := lt_blk hb0; omega)).trans ((alloc_old _ _ _ (lt_blk hvB4)).trans hvB4)
       have hslo5 := owns_keepT (owns_keepT hslo4 (KeepT.alloc _ _)) (KeepT.of_grown (hown2.alloc _) hgrow5 (by decide))
       have hsz5 := hgrow5.size
       simp at hsz5
       have b0c : w5.cell? ⟨b, 0, none⟩ = some (.slice av (q - f) cv) := by rw [cell_blk hvB5]; rfl
       have fb0 := frozen_blk hvB5 0
       have ct5 : w5.cell? ⟨bt, ot + q, none⟩ = some (.int .i64 (tkN T q)) := by
         have := hgrow5.cell (a := ⟨bt, ot + q, none⟩) ((World.cell?_alloc_past _ _ _ (lt_blk hbt4)).trans ct4) (owns_ne hown2 hbt4 (by decide))
         exact this
       have hbl5 := lt_blk hvB5
       have hneb : some b ≠ (Value.slice av (q - f) cv).ownBlock := owns_ne hslo5 hvB5 (by decide)
       clear Hpass
       go_wp2_with fail
       go_region_law ((refine step_append_lies _ (by rfl) _ _ _ (by rfl) W0.heap.size 118 i1 _ 2 32 Try.underlying85 hi' hz0' hz1' hz2' rfl (by omega) (.slice av (q - f) cv) (q - f) _ (by simp [Act.eval]) ((hslo5.alloc _).drew) ⟨w5.heap.size, 0, none⟩ 1 1 [.int .i64 (tkN T q), .slice (some ⟨bc, 0, none⟩) c.layers ccap] (by simp [Act.eval]) (by rfl) (two_new' w5 _ _ _) (by intro u hu; simp at hu; rcases hu with rfl | rfl <;> rfl) (by omega) (by unfold maxLen; omega) (by omega) (by simp; omega) (w5.heap.size + 1) (by simp) ?_; intro gg cap w6 hown6 hgrow6 hat hlt6; have z1 := hgrow6.cell ((World.cell?_alloc_past _ _ _ hbl5).trans b0c) hneb; have z2 := (World.frozen?_of_block (hgrow6.block b (by simp; omega) hneb)).trans ((World.frozen?_alloc_past _ _ _ hbl5).trans fb0)))
       all_goals
         have k4 : ∀ e : TypeId, KeepT e wr w4 := fun e => KeepT.of_below hb4
         have k45 : ∀ e : TypeId, e ≠ 105 → KeepT e w4 w5 := fun e he => (KeepT.alloc _ _).trans (KeepT.of_grown (hown2.alloc _) hgrow5 he)
         have k56 : ∀ e : TypeId, e ≠ 118 → KeepT e w5 w6 := fun e he => ((KeepT.alloc _ _).trans (KeepT.drewN _ 1)).trans (KeepT.of_grown ((hslo5.alloc _).drew) hgrow6 he)
         have hvB6 : w6.heap[b]? = some (.cells #[.slice av (q - f) cv, .pointer pa, .int .i64 1] 87 (0, 0)) := (hgrow6.block b (by simp; omega) hneb).trans ((alloc_old _ _ _ hbl5).trans hvB5)
         have k67 : ∀ e : TypeId, e ≠ 87 → KeepT e w6 (w6.setCell ⟨b, 0, none⟩ (.slice (some ⟨gg, 0, none⟩) (q - f + 1) cap)) := fun e he => KeepT.setCell hvB6 he _
         have hC5 := CellsI.push hown5 (fun t ht => (Hxs.out t ht).keep ((k4 _).trans (k45 _ (by decide))) ((k4 _).trans (k45 _ (by decide)))) (Hcell.out.keep (k45 _ (by decide)) (k45 _ (by decide)))
         have hqf : f + (q - f) = q := by omega
         have hS6 : SlotsI W0.heap.size ok w6 (.slice (some ⟨gg, 0, none⟩) (q - f + 1) cap) c T f (q - f + 1) := SlotsI.push (S := S) (cv := .slice (some ⟨bc, 0, none⟩) c.layers ccap) (by rw [hqf]; exact hown6) (fun i hi => ⟨(HS.out i hi).1, (HS.out i hi).2.keep (((k4 _).trans (k45 _ (by decide))).trans (k56 _ (by decide))) (((k4 _).trans (k45 _ (by decide))).trans (k56 _ (by decide)))⟩) (by rw [hqf]; exact Hcell.out.keep ((k45 _ (by decide)).trans (k56 _ (by decide))) ((k45 _ (by decide)).trans (k56 _ (by decide))))
         have hO4 : Only (fun k => k = b) W0 w4 := hO.trans (Only.of_below hb4 (fun _ => False)) (fun _ _ h => h.elim)
         have hO6 : Only (fun k => k = b) W0 w6 := ((((hO4.alloc _).grown hgrow5 (fun x hx hlt => by have := (hown2.lt _ hx).1; omega)).alloc _).drewN 1).grown hgrow6 (fun x hx hlt => by have := (hslo5.lt _ hx).1; omega)
         have hO7 := hO6.setCell (p := ⟨b, 0, none⟩) (fun _ => rfl) (.slice (some ⟨gg, 0, none⟩) (q - f + 1) cap)
         have hvB7 : (w6.setCell ⟨b, 0, none⟩ (.slice (some ⟨gg, 0, none⟩) (q - f + 1) cap)).heap[b]? = some (.cells #[.slice (some ⟨gg, 0, none⟩) (q - f + 1) cap, .pointer pa, .int .i64 1] 87 (0, 0)) := by rw [setCell_blk hvB6]; rfl
         have hC7 := (hC5.keepT (k56 _ (by decide)) (k56 _ (by decide)) (k56 _ (by decide))).keepT (k67 _ (by decide)) (k67 _ (by decide)) (k67 _ (by decide))
         have hS7 := hS6.keep (k67 _ (by decide)) (k67 _ (by decide)) (k67 _ (by decide))
         obtain ⟨a7, cap7, e7⟩ := hC7.form
         subst e7
         clear hC5 hS6 hO4 hO6 hown5 hown6 hgrow5 hgrow6 hvB6 hvB5 hslo5 k45 k56 k67 k4 hat hown2
         go_wp2
         go_roundw
         case rel => exact ⟨q + 1, _, a7, cap7, by omega, by omega, by go_num, rfl, hC7, hvB7, by rw [show q + 1 - f = q - f + 1 by omega]; exact hS7, hO7⟩
         case measure => simp [intOf]; omega
   · have hqe : q = en := by omega
     subst hqe
     obtain ⟨ke, hke⟩ : ∃ ke : Key, ke = (T.take q, t) := ⟨_, rfl⟩
     have hlq : (T.take q).length = q := by simp; omega
     have hkl : ke.1.length = q := by rw [hke]; exact hlq
     have hpk : pred c.slots ke = (T.take f, 0) := by rw [hke]; exact Hpk.out
     have hkn : B ke = none := by
       rcases none_or (B ke) with e | ⟨b', e⟩
       · exact e
       · exact absurd ((Hh.out.dom ke).1 (by rw [e]; simp)) (by rw [hke]; exact Hlive.out)
     have hkne : ke.1 ≠ [] := fun e => by rw [e] at hkl; simp at hkl; omega
     have hkok : keyOk c.slots ke := by
       unfold keyOk
       rw [hkl, hke]
       show t = 0 ↔ _
       rcases Hen.out with ⟨_, e2, e3⟩ | ⟨e1, e2, e3⟩
       · constructor
         · intro _; rw [e2, Nat.add_mod_right]; exact hf
         · intro _; exact e3
       · constructor
         · intro e; exact absurd e e3
         · intro e
           exfalso
           obtain ⟨x, hx⟩ := Nat.dvd_of_mod_eq_zero hf
           obtain ⟨y, hy⟩ := Nat.dvd_of_mod_eq_zero e
           have h1 : c.slots * x < c.slots * y := by omega
           have h2 : x < y := Nat.lt_of_mul_lt_mul_left h1
           have h3 : c.slots * (x + 1) ≤ c.slots * y := Nat.mul_le_mul_left _ h2
           rw [Nat.mul_add] at h3
           omega
     have hS0 : SlotsI 0 ok wr v c ke.1 (pred c.slots ke).1.length (ke.1.length - (pred c.slots ke).1.length) := by
       rw [hpk, hkl]
       show SlotsI 0 ok wr v c ke.1 (T.take f).length (q - (T.take f).length)
       rw [Hlf.out, hke]
       exact (hS.base (Nat.zero_le _)).congr (fun j hj => (tkN_take T q j (by omega)).symm)
     have hLk := (hLr.mono (F' := grow F w) (fun k hk => .inl hk)).laid s1 ke 1 (b := b) (x := v) (by rw [hpk, Hvp.out]; exact hvB) hS0 hnf hnB hkn ⟨hkne, hkok, by omega, fun u hu => htok u (List.mem_of_mem_take (by rw [hke] at hu; exact hu))⟩ (fun e => by rw [hpk] at e ⊢; exact Hh.out.head e) (.inl (Hlow.out.fE b (by simp))) (fun s hs => by
       obtain ⟨S, hS1, _⟩ := hS
       have := (hS1.lt s hs).1
       exact .inr (by omega))
     have hBk : (fun i => if i = ke then some b else B i) ke = some b := by simp
     have hwh := hLk.iswhole_any hc ke b hBk
     have ht2 : ke.2 = t := by rw [hke]
     rw [ht2] at hwh
     have hMr : Moves F w wr := HM0.out.trans (Moves.of_only hO (fun k hk => .inl (by rw [hk]; exact Hlow.out.fE b (by simp))) (fun k cur e fr hk hh => by rw [hk, hb0] at hh; injection hh with hh; injection hh with _ hh _; exact .inr (.inr (.inr (.inl hh.symm)))))
     -- the store, when the tree is right too
     have hfin : ∀ W vI' vF' N' Mm', LowX (grow F w) ok W g c (fun i => if i = ke then some b else B i) (fun i => if i = ke then 1 else users c.slots ((T.take f, 0) :: H) i) (fun p => (fun i => if i = ke then some b else B i) (p, 0)) il free vI' vF' N' Mm' → StoreI (grow F w) ok W g c (ke :: H) il (fun i => if i = ke then some b else B i) free := fun W vI' vF' N' Mm' hL => by
       have hp := Hh.out.pure
       rw [← hpk] at hp
       have hlv : ¬ live c.slots (pred c.slots ke :: H) il ke := by rw [hpk, hke]; exact Hlive.out
       have hp' := hp.fill s1 ⟨hkok, by omega, fun u hu => htok u (List.mem_of_mem_take (by rw [hke] at hu; exact hu))⟩ hlv
       have eu : (fun i => if i = ke then 1 else users c.slots ((T.take f, 0) :: H) i) = users c.slots (ke :: H) := by
         funext i
         rw [users_step c.slots ke H i s1 hkok hkne, hpk]
         by_cases e : i = ke
         · rw [if_pos e, if_pos e, e]
           have : users c.slots ((T.take f, 0) :: H) ke = 0 := (users_zero _ _ _).2 (fun hh => hlv (by rw [hpk]; exact .inl hh))
           omega
         · rw [if_neg e, if_neg e]; rfl
       rw [eu] at hL
       refine ⟨⟨vI', vF', N', Mm', hL⟩, hp', fun i => ?_, ?_, by have := Hh.out.many; simpa using this⟩
       · have hd := Hh.out.dom i
         have hs := on_step c.slots ke i s1 hkok
         by_cases e : i = ke
         · rw [if_pos e, e]
           exact ⟨fun _ => .inl ((heldBy_cons _ _ _ _).2 (.inl (on_self _ _ hkne))), fun _ => by simp⟩
         · rw [if_neg e, hd]
           unfold live
           rw [heldBy_cons, heldBy_cons, hs, hpk]
           constructor
           · rintro ((h1 | h1) | h1)
             · exact .inl (.inl (.inr h1))
             · exact .inl (.inr h1)
             · exact .inr h1
           · rintro (((h1 | h1) | h1) | h1)
             · exact absurd h1.1 e
             · exact .inl (.inl h1)
             · exact .inl (.inr h1)
             · exact .inr h1
       · have hn := nUsed_step c.slots ke H s1 hkok (fun x hx => hp.ok x (by simp [hx])) hkne
         rw [hpk, if_neg (fun hh => hlv (by rw [hpk]; exact .inl ((heldBy_cons _ _ _ _).2 (.inr hh))))] at hn
         have := Hh.out.count
         simp only [List.length_append, List.length_singleton] at this
         omega
     have Hfin := hide hfin
     have HLk := hide hLk
     have Hwh := hide hwh
     have HMr := hide hMr
     have HTr := hide hTr
     have Hke := hide hke
     have Hlq := hide hlq
     clear hfin hLk hwh hMr hTr hC hS hS0 hLr hBk hkok hkl hlq ht2 hvB hpk hkn hkne hke
     go_wp2_with fail
     refine Hwh.out.mono ?_
     rintro e w7 ⟨rfl, nq, hw7⟩
     have hB7 : Below wr.heap.size wr w7 := by rw [hw7]; exact ⟨rfl, rfl, rfl, Nat.le_refl _, fun _ _ => rfl⟩
     have hL7 := HLk.out.below hB7
     have hM7 : Moves F w w7 := HMr.out.trans (Moves.of_below hB7)
     have hsz7 : w7.heap.size = wr.heap.size := by rw [hw7]; simp [World.drewN]
     clear hw7 Hwh
     by_cases ht0 : t = 0
     · subst ht0
       have hV : (fun p => if p = T.take q then some b else B (p, 0)) = fun p => (fun i => if i = ke then some b else B i) (p, 0) := by
         funext p
         rw [Hke.out]
         simp only [Prod.mk.injEq, and_true]
       have hT7 : TokT w7.drew (.slice ap q cp) (T.take q) := TokT.take (n := T.length) ((HTr.out.keep (KeepT.of_below hB7)).keep (KeepT.drewN _ 1)) q (by omega)
       have hL7' := hL7.below ((Below.refl _ _).drew)
       have hput := treeput_any (TFoot N Mm) N Mm _ g.X 9 b (T.take q) _ w7.drew hL7'.tree.exact hL7'.root hT7 (fun u hu => by have := htok u (List.mem_of_mem_take hu); omega) (tfoot_ints hL7') (by rw [Hlq.out]; omega)
       have Hput := hide hput
       have HL7 := hide hL7'
       have HM7 := hide hM7
       have HV := hide hV
       have jq : (q : Int) ≤ (cp : Int) := by omega
       have jq0 : (0 : Int) ≤ (q : Int) := by omega
       clear hput hL7 hL7' hM7 hV hT7
       go_wp2_with fail
       go_region_held3 (fun _ => True) (trivial) (first | (go_at_call 82; refine Hput.out.mono ?_; rintro e w8 ⟨rfl, N', ⟨Mm', hT8⟩, hO8, hmore8, hout8⟩))
       have hL8 := HL7.out.retree hT8 hO8 hout8 (hmore8 _ _ HL7.out.root) (fun p hp hm => by
         rcases hT8.mfoot p _ hp hm with hh | hh
         · rcases hh with ⟨p', a, hp', ea⟩ | ⟨p', hp', hm'⟩
           · rcases HL7.out.tree.foot p' a hp' with hf' | hf'
             · exact hSM.1 (by rw [ea]; exact hf')
             · have := hSM.2; omega
           · exact HL7.out.smap p' hp' hm'
         · have h1 : w7.heap.size ≤ g.SM := hh
           have := hSM.2
           omega)
       rw [HV.out] at hL8
       have HL8 := hide hL8
       clear hL8 hT8 hO8 hmore8 hout8 Hput
       go_wp2
       go_ret
       rw [Hke.out] at Hfin HL8
       refine ⟨rfl, ?_, HM7.out.trans ((show Moves (grow F w) w7 w8 from ⟨⟨HL8.out.2.only.os, HL8.out.2.only.tape, HL8.out.2.only.output, HL8.out.2.only.size, HL8.out.2.only.block⟩, HL8.out.2.kept⟩))⟩
       refine Hfin.out _ _ _ _ _ (HL8.out.1.mono (fun k hk => ?_))
       rcases hk with hk | hk
       · exact hk
       · have h1 : w7.heap.size ≤ k := hk
         exact .inr (by omega)
     · have hd : decide (t = 0) = false := by simpa using ht0
       rw [hd]
       have hV : (fun p => B (p, 0)) = fun p => (fun i => if i = ke then some b else B i) (p, 0) := by
         funext p
         rw [Hke.out]
         have : (p, 0) ≠ (T.take q, t) := fun e => ht0 (by injection e with _ e; exact e.symm)
         simp only [if_neg this]
       rw [hV] at hL7
       have HL7 := hide hL7
       have HM7 := hide hM7
       clear hL7 hM7 hV hd
       go_wp2
       go_ret
       rw [Hke.out] at Hfin HL7
       exact ⟨rfl, Hfin.out _ _ _ _ _ HL7.out, HM7.out⟩
end Go.Proofs.Ytlmflighkkgikaa
