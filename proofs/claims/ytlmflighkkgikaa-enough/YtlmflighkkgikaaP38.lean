import Derived.Test.YtlmflighkkgikaaP22
import Derived.Test.YtlmflighkkgikaaP36

namespace Go.Proofs.Ytlmflighkkgikaa
open Go.RowKit
attribute [local go_sem ↓] Go.wp_at_zero Go.wp_at_succ
def goTo (c : Cfg) (T : List Nat) : Nat → List Nat
 | 0 => T
 | n + 1 => goTo c T n ++ [nextOf c (xIn c (tkN (goTo c T n)) ((goTo c T n).length - 1) c.layers)]
theorem goTo_len (c : Cfg) (T : List Nat) (n : Nat) : (goTo c T n).length = T.length + n := by
 induction n with
 | zero => rfl
 | succ n ih => simp only [goTo, List.length_append, List.length_singleton, ih]; omega
structure GoesOn (c : Cfg) (T U : List Nat) (n : Nat) : Prop where
 len : U.length = T.length + n
 pre : U.take T.length = T
 next : ∀ i, i < n → tkN U (T.length + i) = nextOf c (xIn c (tkN U) (T.length + i - 1) c.layers)
theorem tkN_append_left {A C : List Nat} {j : Nat} (h : j < A.length) : tkN (A ++ C) j = tkN A j := by
 unfold tkN; rw [List.getD_eq_getElem?_getD, List.getD_eq_getElem?_getD, List.getElem?_append_left h]
theorem goTo_goesOn (c : Cfg) (T : List Nat) (n : Nat) (hT : 0 < T.length) : GoesOn c T (goTo c T n) n := by
 induction n with
 | zero => exact ⟨rfl, List.take_length, fun i hi => absurd hi (by omega)⟩
 | succ n ih =>
   refine ⟨goTo_len c T (n + 1), ?_, fun i hi => ?_⟩
   · simp only [goTo]
     rw [List.take_append_of_le_length (by rw [ih.len]; omega)]
     exact ih.pre
   · have hl := ih.len
     by_cases e : i = n
     · subst e
       simp only [goTo]
       have e1 : tkN (goTo c T i ++ [nextOf c (xIn c (tkN (goTo c T i)) ((goTo c T i).length - 1) c.layers)]) (T.length + i) = nextOf c (xIn c (tkN (goTo c T i)) ((goTo c T i).length - 1) c.layers) := by
         unfold tkN
         rw [List.getD_eq_getElem?_getD, List.getElem?_append_right (by omega), hl, Nat.sub_self]
         rfl
       rw [e1, hl]
       congr 1
       exact congrFun (xIn_congr c _ (fun j hj => (tkN_append_left (by omega)).symm)) _
     · simp only [goTo]
       rw [tkN_append_left (by omega), ih.next i (by omega)]
       congr 1
       exact congrFun (xIn_congr c _ (fun j hj => (tkN_append_left (by omega)).symm)) _
theorem GoesOn.left {c : Cfg} {T U : List Nat} {n : Nat} (h : GoesOn c T U n) (j : Nat) (hj : j < T.length) : tkN T j = tkN U j := by
 have := tkN_take U T.length j hj
 rw [h.pre] at this
 exact this
theorem GoesOn.tok {c : Cfg} (hc : c.ok) {T U : List Nat} {n : Nat} (h : GoesOn c T U n) (i : Nat) (hi : i < n) : tkN U (T.length + i) < c.vocab := by
 rw [h.next i hi]; exact nextOf_lt c hc _
theorem CellI.and_old {ok : Nat → Prop} {w : World} {v : Value} {L m : Nat} {kf vf : Nat → Nat → Int} (hm : 0 < m) (h : CellI ok w v L m kf vf) : CellI (fun b => ok b ∧ b < w.heap.size) w v L m kf vf := by
 obtain ⟨b, cap, arr, fr, h1, h2, h3, h4, h5⟩ := h
 have go : ∀ {u : Value} {g : Nat → Int}, IntsT w u m g → okV ok u → okV (fun b => ok b ∧ b < w.heap.size) u := by
   intro u g hu ho a n c e
   refine ⟨ho a n c e, ?_⟩
   obtain ⟨a', c', e', _, _, q⟩ := hu
   rw [e'] at e
   obtain ⟨b, off, cur, fr, ea, hb, _⟩ := q hm
   subst ea
   cases e
   exact lt_blk hb
 refine ⟨b, cap, arr, fr, h1, h2, h3, h4, fun l hl => ?_⟩
 obtain ⟨vk, vv, q1, q2, q3, q4, q5, q6⟩ := h5 l hl
 exact ⟨vk, vv, q1, q2, q3, q4, go q3 q5, go q4 q6⟩
theorem SeqAt.and_old {ok : Nat → Prop} {w : World} {c : Cfg} (hm : 0 < c.width) {B : Key → Option Nat} {U : Key → Nat} {k : Key} (h : SeqAt ok w c B U k) : SeqAt (fun b => ok b ∧ b < w.heap.size) w c B U k :=
 ⟨⟨fun j b hj => by
   obtain ⟨v, h1, S, h2, h3⟩ := h.blks.at' j b hj
   exact ⟨v, h1, S, h2, fun t ht => ⟨(h3 t ht).1, (h3 t ht).2.and_old hm⟩⟩, h.blks.ne, h.blks.ahead, h.blks.inj⟩, h.nil, h.here⟩
theorem SeqAt.okmono {ok ok' : Nat → Prop} {w : World} {c : Cfg} {B : Key → Option Nat} {U : Key → Nat} {k : Key} (h : SeqAt ok w c B U k) (hm : ∀ b, ok b → ok' b) : SeqAt ok' w c B U k :=
 ⟨⟨fun j b hj => by
   obtain ⟨v, h1, S, h2, h3⟩ := h.blks.at' j b hj
   exact ⟨v, h1, S, h2, fun t ht => ⟨(h3 t ht).1, (h3 t ht).2.mono hm⟩⟩, h.blks.ne, h.blks.ahead, h.blks.inj⟩, h.nil, h.here⟩
set_option maxRecDepth 100000 in
set_option maxHeartbeats 4000000 in
theorem goon_any (ok : Nat → Prop) (g : Parts) (c : Cfg) (hc : c.ok) (B : Key → Option Nat) (U : Key → Nat) (k : Key) (b n : Nat) (T : List Nat) (w : World) (hs : SeqAt ok w c B U k) (hb : B k = some b) (hne : k.1 ≠ []) (htok : ∀ t ∈ k.1, t < c.vocab) (hM : ModelT w g.M c g.vE g.vH g.bL g.oL g.cL) (hX : w.cell? ⟨g.X, 7, none⟩ = some (.pointer (some ⟨g.M, 0, none⟩))) (hXl : g.X < w.heap.size)
   (hG : GoesOn c k.1 T n) (hn : k.1.length + n ≤ 40) (hok : ∀ b, w.heap.size ≤ b → ok b) :
   Calls Try.prog 33 #[.pointer (some ⟨g.X, 0, none⟩), .pointer (some ⟨b, 0, none⟩), .int .i64 n] w fun e w' => ∃ vr, e = .returned (.tuple #[.slice (some ⟨w.heap.size, 0, none⟩) n n, vr]) ∧ OwnI w.heap.size w' w.heap.size n n (fun j => tkI T (k.1.length + j)) ∧ (0 < n → RecI (fun x => ok x ∧ x ≠ w.heap.size) w' vr c T k.1.length n) ∧ Below w.heap.size w w' := by
 obtain ⟨i1, hi1, hy0, hy1, hy2⟩ := info_parts Try.info_cell
 obtain ⟨w1', w2'⟩ := c.width_bd hc
 have h1 : 0 < k.1.length := List.length_pos_iff.2 hne
 obtain ⟨W1, hW1⟩ : ∃ W1, W1 = w.alloc (.cells (madeCells #[.int .i64 0] n) 3) := ⟨_, rfl⟩
 have hB1 : Below w.heap.size w W1 := by rw [hW1]; exact (Below.refl _ _).alloc (Nat.le_refl _) _
 have hrow1 : W1.rowIs w.heap.size 3 n (fun j => .int .i64 (filled (fun j => tkI T (k.1.length + j)) 0 j)) := by rw [hW1]; exact fill_start w n _
 have hsz1 : W1.heap.size = w.heap.size + 1 := by rw [hW1]; simp
 have hmk := run_make_row' (P := Try.prog) 24 3 (.int .i64 0) 8 Try.underlying24 Try.info_int rfl .i64 .i64 n (by omega) (by omega)
 have hs1 : SeqAt (fun x => ok x ∧ x ≠ w.heap.size) w c B U k := (hs.and_old (by omega)).okmono (fun x hx => ⟨hx.1, by omega⟩)
 have hcs := cells_any (fun x => ok x ∧ x ≠ w.heap.size) c hc B U k W1 (hs1.below hB1)
 rw [hb] at hcs
 unfold blkV at hcs
 have hbe := fun W (hW : Below w.heap.size w W) => behind_any ok g c hc B U k b W (hs.below hW) hb hne htok (hM.keep (KeepT.of_below hW) (KeepT.of_below hW) (KeepT.of_below hW) (KeepT.of_below hW)) ((hW.cell (p := ⟨g.X, 7, none⟩) hXl).trans hX) (Nat.lt_of_lt_of_le hXl hW.size)
 have Hcs := hide hcs
 have Hbe := hide hbe
 have HG := hide hG
 have HM := hide hM
 have Hok := hide hok
 have HW1 := hide hW1
 clear hcs hbe hG hM hok hs hs1 hb hne htok hW1
 go_enter Try.func33, Try.ntmps33
 go_wp2_with fail
 rw [← HW1.out]
 refine Hcs.out.mono ?_
 rintro e w2 ⟨r2, rfl, hC2, hb2⟩
 replace hC2 := hC2.congr (T' := T) (fun j hj => HG.out.left j hj)
 obtain ⟨a2, c2, e2⟩ := hC2.form
 subst e2
 have hB2 := hB1.trans (hb2.mono hB1.size)
 have hrow2 := hrow1.of_block (hb2.block _ hrow1.lt)
 clear Hcs hrow1 hmk
 go_wp2_with fail
 refine (Hbe.out w2 hB2).mono ?_
 rintro e w3 ⟨x3, rfl, hx3, hb3⟩
 have hB3 := hB2.trans (hb3.mono hB2.size)
 have hrow3 := hrow2.of_block (hb3.block _ hrow2.lt)
 have hC3 := hC2.below hb3
 have exx : xIn c (tkN k.1) (k.1.length - 1) c.layers = xIn c (tkN T) (k.1.length - 1) c.layers := congrFun (xIn_congr c _ (fun j hj => HG.out.left j (by omega))) _
 rw [exx] at hx3
 clear Hbe hC2 hrow2 exx hb3 hb2
 have Hx : Hid (∀ W, Below w.heap.size w W → W.cell? ⟨g.X, 7, none⟩ = some (.pointer (some ⟨g.M, 0, none⟩))) := fun W hW => (hW.cell (p := ⟨g.X, 7, none⟩) hXl).trans hX
 have HMo : Hid (∀ W, Below w.heap.size w W → ModelI W g.M c g.vE g.vH g.bL g.oL g.cL) := fun W hW => (HM.out.keep (KeepT.of_below hW) (KeepT.of_below hW) (KeepT.of_below hW) (KeepT.of_below hW)).model
 have Hgn : Hid (∀ i, i < n → nextOf c (xIn c (tkN T) (k.1.length + i - 1) c.layers) = tkN T (k.1.length + i)) := fun i hi => (HG.out.next i hi).symm
 have Htk : Hid (∀ i, i < n → tkN T (k.1.length + i) < c.vocab) := fun i hi => HG.out.tok hc i hi
 clear HG
 obtain ⟨n0, hn0⟩ : ∃ n0, n0 = k.1.length := ⟨_, rfl⟩
 rw [← hn0] at Hgn Htk hx3 hrow3 hC3 hn h1 ⊢
 have Hn0 := hide hn0
 have hlay := hc.layers
 clear HM hX hB1 hB2 hn0
 go_wp2
 go_loopw [9, 11, 25] (fun o x i wr => ∃ (j : Nat) (ac : Option Addr) (cc : Nat), j ≤ n ∧ i = .int .i64 j ∧ o = .slice ac (n0 + j) cc ∧ CellsI W1.heap.size (fun x => ok x ∧ x ≠ w.heap.size) wr (.slice ac (n0 + j) cc) c T (n0 + j) ∧ IntsT wr x c.width (xIn c (tkN T) (n0 + j - 1) c.layers) ∧ wr.rowIs w.heap.size 3 n (fun i => .int .i64 (filled (fun i => tkI T (n0 + i)) j i)) ∧ Below w.heap.size w wr) (fun _ _ i _ => n - (intOf i).toNat)
 case atStart => exact ⟨0, a2, c2, Nat.zero_le _, rfl, rfl, hC3, hx3, hrow3, hB3⟩
 case round =>
   obtain ⟨j, ac, cc, hj, rfl, rfl, hC, hx, hrow, hB⟩ := hrel
   have hsz := hB.size
   by_cases hjq : j < n
   · have x7 := Hx.out wr hB
     have hnx := next_any c hc g.M _ g.vE g.vH g.bL g.oL g.cL _ wr (HMo.out wr hB) hx (xIn_bd c (tkN T) (n0 + j - 1) c.layers)
     rw [Hgn.out j hjq] at hnx
     have Hnx := hide hnx
     have hbl := hrow.lt
     clear hnx hC3 hx3 hrow3
     go_wp2_with (first | (go_at_call 55; refine Hnx.out.mono ?_; rintro e w4 ⟨rfl, hb4⟩; have hrow4 := hrow.of_block (hb4.block _ hbl); have fr4 := hrow4.frozen j; have cr4 := hrow4.cell hjq) | fail)
     obtain ⟨w5, hw5⟩ : ∃ w5, w5 = w4.setCell ⟨w.heap.size, j, none⟩ (.int .i64 (tkN T (n0 + j))) := ⟨_, rfl⟩
     have hB4 := hB.trans (hb4.mono hsz)
     have hB5 : Below w.heap.size w w5 := by rw [hw5]; exact hB4.setCell (Nat.le_refl _) _
     have hrow5 : w5.rowIs w.heap.size 3 n (fun i => .int .i64 (filled (fun i => tkI T (n0 + i)) (j + 1) i)) := by rw [hw5]; exact fill_step hrow4 rfl
     obtain ⟨cur4, hcur4, -, -⟩ := id hrow4
     have hC5 : CellsI W1.heap.size (fun x => ok x ∧ x ≠ w.heap.size) w5 (.slice ac (n0 + j) cc) c T (n0 + j) := by
       obtain ⟨xs, h1, h2⟩ := hC.below hb4
       rw [hw5]
       exact ⟨xs, owns_keepT h1 (KeepT.setCell hcur4 (by decide) _), fun t ht => (h2 t ht).stays (KeepT.setCell hcur4 (by decide) _) (fun x cur fr hx hb => (Go.Deep.blk_setCell_other _ _ _ _ (fun e => hx.2 e)).trans hb)⟩
     rw [← hw5]
     have hca := hC5.cap
     unfold maxLen at hca
     obtain ⟨hca1, hca2⟩ := hca
     have ct5 : w5.cell? ⟨w.heap.size, j, none⟩ = some (.int .i64 (tkN T (n0 + j))) := by
       have := hrow5.cell hjq
       unfold filled tkI at this
       rw [if_pos (by omega)] at this
       exact this
     have x75 := Hx.out w5 hB5
     have hs5 := hB5.size
     have hXl5 : g.X < w5.heap.size := by omega
     have hbl5 := hrow5.lt
     have hdr : Below w5.heap.size w5 w5.drew := (Below.refl _ _).drew
     have Hpass := hide (pass_new c hc g.M (tkN T (n0 + j)) (n0 + j) _ g.vE g.vH g.bL g.oL g.cL _ _ w5.drew (HMo.out _ (hB5.trans (hdr.mono hs5))) ((hC5.past (Nat.le_refl _)).below hdr) (Htk.out j hjq) (by omega) (memOf_bd c (tkN T) (n0 + j)).1 (memOf_bd c (tkN T) (n0 + j)).2)
     clear hw5 hC hrow hrow4 cr4 fr4 hcur4 Hnx x7 hb4 hB4 hx
     go_wp2_with fail
     go_region_held3 (fun w' => w'.cell? ⟨g.X, 7, none⟩ = some (.pointer (some ⟨g.M, 0, none⟩)) ∧ w'.cell? ⟨w.heap.size, j, none⟩ = some (.int .i64 (tkN T (n0 + j))))
       (first | (exact ⟨z7, zt⟩) | go_keep)
       (first | (go_at_call 56; refine Hpass.out.mono ?_; rintro e w6 ⟨r6, cell6, rfl, hr6, hcell6, hb6⟩; replace hb6 : Below w5.heap.size w5 w6 := hdr.trans hb6; have z7 := (hb6.cell (p := ⟨g.X, 7, none⟩) hXl5).trans x75; have zt := (hb6.cell (p := ⟨w.heap.size, j, none⟩) hbl5).trans ct5; obtain ⟨bc, ccap, carr, cfr, ecell, hcr⟩ := id hcell6; subst ecell))
     have hB6 := hB5.trans (hb6.mono hs5)
     have hs6 := hB6.size
     obtain ⟨xs, hown6, hxs6⟩ := hC5.below hb6
     have Hxs := hide hxs6
     have Hcell : Hid (CellI (fun x => ok x ∧ x ≠ w.heap.size) w6 (.slice (some ⟨bc, 0, none⟩) c.layers ccap) c.layers c.width (kOf c (tkN T) (n0 + j)) (vOf c (tkN T) (n0 + j))) := hcell6.mono (fun x hx => ⟨Hok.out x (by have : w5.heap.size ≤ x := hx; omega), by have : w5.heap.size ≤ x := hx; omega⟩)
     have Hr6 := hide hr6
     have hrow6 := hrow5.of_block (hb6.block _ hbl5)
     clear hxs6 hcell6 hr6 hC5 hcr hrow5 z7 zt Hpass
     go_wp2_with (at_builtin; refine wpList_append_own _ rfl _ _ 78 rfl W1.heap.size 105 i1 (.slice none 0 0) 1 24 Try.underlying78 hi1 hy0 hy1 hy2 rfl (by decide) _ _ _ rfl (hown6.alloc _) ⟨w6.heap.size, 0, none⟩ 1 1 [.slice (some ⟨bc, 0, none⟩) c.layers ccap] rfl rfl (one_new w6 _ _) (by intro u hu; simp at hu; subst hu; rfl) (by unfold maxLen; omega) (by omega) (by simp; omega) ?_; intro v7 w7 hown7 hgrow7 _)
     have k7 : ∀ e : TypeId, e ≠ 105 → KeepT e w6 w7 := fun e he => (KeepT.alloc _ _).trans (KeepT.of_grown (hown6.alloc _) hgrow7 he)
     have hC7 := CellsI.push hown7 (fun t ht => (Hxs.out t ht).keep (k7 _ (by decide)) (k7 _ (by decide))) (Hcell.out.keep (k7 _ (by decide)) (k7 _ (by decide)))
     have hB7 : Below w.heap.size w w7 := (hB6.alloc hs6 _).grown hgrow7 (by simp; omega) (fun x hx => by have := (hown6.lt _ hx).1; omega)
     obtain ⟨a7, cap7, e7⟩ := hC7.form
     subst e7
     have hx7 := Hr6.out.keep (k7 _ (by decide))
     have hrow7 : w7.rowIs w.heap.size 3 n (fun i => .int .i64 (filled (fun i => tkI T (n0 + i)) (j + 1) i)) := by
       obtain ⟨q, q1, q2, q3⟩ := hrow6
       exact ⟨q, k7 _ (by decide) _ _ _ q1, q2, q3⟩
     clear hown6 hown7 hgrow7 k7 hrow6
     go_wp2
     go_roundw
     case rel => exact ⟨j + 1, a7, cap7, by omega, by go_num, rfl, hC7, hx7, hrow7, hB7⟩
     case measure => simp [intOf]; omega
   · have hje : j = n := by omega
     subst hje
     have hca := hC.cap
     unfold maxLen at hca
     obtain ⟨hca1, hca2⟩ := hca
     have s1 : (0 : Int) ≤ (n0 : Int) := by omega
     have s2 : (n0 : Int) ≤ ((n0 + j : Nat) : Int) := by omega
     have s3 : ((n0 + j : Nat) : Int) ≤ (cc : Int) := by omega
     obtain ⟨gc, cv, rfl, hgc, -, -⟩ := hC.cell (n0 - 1) (by omega)
     have Hcc : Hid (∀ t, t < j → ∃ cv, wr.cell? ⟨gc, n0 + t, none⟩ = some cv ∧ CellI (fun x => ok x ∧ x ≠ w.heap.size) wr cv c.layers c.width (kOf c (tkN T) (n0 + t)) (vOf c (tkN T) (n0 + t))) := fun t ht => by
       obtain ⟨g', cv', eg, _, q1, q2⟩ := hC.cell (n0 + t) (by omega)
       cases eg
       exact ⟨cv', q1, q2⟩
     have Hrow := hide (OwnI.of_row (base := w.heap.size) (hrow.congr (fun i hi => by show _ = Value.int .i64 (tkI T (n0 + i)); unfold filled; rw [if_pos hi])) (Nat.le_refl _) (by unfold maxLen; omega))
     clear hC hrow hx
     go_wp2
     go_quiet (fail)
     by_cases hcn : cc = n0
     · have hj0 : j = 0 := by omega
       simp only [if_pos hcn]
       go_wp2
       go_ret2
       rw [← Hn0.out]
       exact ⟨_, rfl, Hrow.out, fun h0 => absurd h0 (by omega), ⟨hB.os, hB.tape, hB.output, hB.size, hB.block⟩⟩
     · simp only [if_neg hcn]
       go_wp2
       go_ret2
       rw [← Hn0.out]
       have hdr : Below wr.heap.size wr (wr.drewN nq) := ⟨rfl, rfl, rfl, Nat.le_refl _, fun _ _ => rfl⟩
       refine ⟨_, rfl, Hrow.out, fun h0 => ?_, hB.trans (hdr.mono hsz)⟩
       obtain ⟨xs, hxs⟩ : ∃ xs : Nat → Value, ∀ t, t < j → wr.cell? ⟨gc, n0 + t, none⟩ = some (xs t) ∧ CellI (fun x => ok x ∧ x ≠ w.heap.size) wr (xs t) c.layers c.width (kOf c (tkN T) (n0 + t)) (vOf c (tkN T) (n0 + t)) := by
         refine ⟨fun t => (wr.cell? ⟨gc, n0 + t, none⟩).getD undef, fun t ht => ?_⟩
         obtain ⟨cv, q1, q2⟩ := Hcc.out t ht
         show _ = some ((wr.cell? ⟨gc, n0 + t, none⟩).getD undef) ∧ CellI (fun x => ok x ∧ x ≠ w.heap.size) wr ((wr.cell? ⟨gc, n0 + t, none⟩).getD undef) _ _ _ _
         rw [q1]
         exact ⟨rfl, q2⟩
       exact RecI.below (w := wr) (.inr ⟨gc, n0, _, xs, rfl, h0, hgc, hxs⟩) hdr
end Go.Proofs.Ytlmflighkkgikaa
