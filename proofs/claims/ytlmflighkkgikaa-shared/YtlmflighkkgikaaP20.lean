import Derived.Deep.CutRange
import Derived.Test.YtlmflighkkgikaaP07
import Derived.Test.YtlmflighkkgikaaP18

namespace Go.Proofs.Ytlmflighkkgikaa
open Go.RowKit
attribute [local go_sem ↓] Go.wp_at_zero Go.wp_at_succ
def MatW (w : World) (v : Value) (c : Cfg) (start n m : Nat) : Prop := MatT w v n m (fun i j => c.weight (start + i * m + j))
theorem MatW.below {w w' : World} {v : Value} {c : Cfg} {s n m : Nat} (h : MatW w v c s n m) (hb : Below w.heap.size w w') : MatW w' v c s n m := MatT.below h hb
def Cfg.headAt (c : Cfg) : Nat := c.vocab * c.width + c.layers * 8 * c.ww
structure LayerI (w : World) (c : Cfg) (l : Nat) (v0 v1 v2 v3 v4 v5 : Value) : Prop where
 q : MatW w v0 c (c.from l) c.width c.width
 k : MatW w v1 c (c.from l + c.ww) c.width c.width
 v : MatW w v2 c (c.from l + 2 * c.ww) c.width c.width
 o : MatW w v3 c (c.from l + 3 * c.ww) c.width c.width
 up : MatW w v4 c (c.from l + 4 * c.ww) (2 * c.width) c.width
 down : MatW w v5 c (c.from l + 6 * c.ww) c.width (2 * c.width)
theorem LayerI.below {w w' : World} {c : Cfg} {l : Nat} {v0 v1 v2 v3 v4 v5 : Value} (h : LayerI w c l v0 v1 v2 v3 v4 v5) (hb : Below w.heap.size w w') : LayerI w' c l v0 v1 v2 v3 v4 v5 :=
 ⟨h.q.below hb, h.k.below hb, h.v.below hb, h.o.below hb, h.up.below hb, h.down.below hb⟩
structure ModelI (w : World) (M : Nat) (c : Cfg) (vE vH : Value) (bL oL cL : Nat) : Prop where
 obj : w.heap[M]? = some (.cells #[.int .i64 c.pairs, vE, vH, .slice (some ⟨bL, oL, none⟩) c.layers cL] 111 (0, 0))
 emb : MatW w vE c 0 c.vocab c.width
 head : MatW w vH c c.headAt c.vocab c.width
 lt : bL < w.heap.size
 cap : c.layers ≤ cL
 layer : ∀ l, l < c.layers → ∃ v0 v1 v2 v3 v4 v5, w.cell? ⟨bL, oL + l * 6, none⟩ = some v0 ∧ w.cell? ⟨bL, oL + l * 6 + 1, none⟩ = some v1 ∧ w.cell? ⟨bL, oL + l * 6 + 2, none⟩ = some v2 ∧
   w.cell? ⟨bL, oL + l * 6 + 3, none⟩ = some v3 ∧ w.cell? ⟨bL, oL + l * 6 + 4, none⟩ = some v4 ∧ w.cell? ⟨bL, oL + l * 6 + 5, none⟩ = some v5 ∧ LayerI w c l v0 v1 v2 v3 v4 v5
theorem ModelI.below {w w' : World} {M : Nat} {c : Cfg} {vE vH : Value} {bL oL cL : Nat} (h : ModelI w M c vE vH bL oL cL) (hb : Below w.heap.size w w') : ModelI w' M c vE vH bL oL cL := by
 refine ⟨by rw [hb.block M (lt_blk h.obj)]; exact h.obj, h.emb.below hb, h.head.below hb, Nat.lt_of_lt_of_le h.lt hb.size, h.cap, fun l hl => ?_⟩
 obtain ⟨v0, v1, v2, v3, v4, v5, c0, c1, c2, c3, c4, c5, hL⟩ := h.layer l hl
 exact ⟨v0, v1, v2, v3, v4, v5, (hb.cell (p := ⟨bL, _, none⟩) h.lt).trans c0, (hb.cell (p := ⟨bL, _, none⟩) h.lt).trans c1, (hb.cell (p := ⟨bL, _, none⟩) h.lt).trans c2, (hb.cell (p := ⟨bL, _, none⟩) h.lt).trans c3, (hb.cell (p := ⟨bL, _, none⟩) h.lt).trans c4, (hb.cell (p := ⟨bL, _, none⟩) h.lt).trans c5, hL.below hb⟩
theorem mat_slice {w : World} {v : Value} {n m : Nat} {f : Nat → Nat → Int} (h : MatT w v n m f) : ∃ a c, v = .slice a n c := by
 obtain ⟨_, ⟨a, c, rfl, _⟩, _⟩ := h
 exact ⟨a, c, rfl⟩
def xAt (c : Cfg) (p tok : Nat) (kf vf : Nat → Nat → Nat → Int) : Nat → Nat → Int
 | 0 => fun i => cutI (64 * c.weight (tok * c.width + i))
 | l + 1 => xNext c l p (xAt c p tok kf vf l) (fun t => if t = p then kNew c l p (xAt c p tok kf vf l) else kf t l) (fun t => if t = p then vNew c l (xAt c p tok kf vf l) else vf t l)
theorem xAt_bd (c : Cfg) (p tok : Nat) (kf vf : Nat → Nat → Nat → Int) (l i : Nat) : -4095 ≤ xAt c p tok kf vf l i ∧ xAt c p tok kf vf l i ≤ 4095 := by
 cases l with
 | zero => exact cutI_bd _
 | succ l => exact plusOf_bd _ _ _
theorem dtimes_W (c : Cfg) (u : World) (start n m : Nat) (vm vv : Value) (v : Nat → Int) (hm : MatW u vm c start n m) (hv : IntsT u vv m v) (hn : n ≤ 100) (hm1 : m ≤ 100) (bv : ∀ j, -4095 ≤ v j ∧ v j ≤ 4095) :
   Calls Try.prog 57 #[vm, vv] u fun e w' => ∃ r, e = .returned r ∧ IntsT w' r n (mulAt c.weight start m v) ∧ Below u.heap.size u w' :=
 dtimes_any n m vm vv _ v u hm hv hn hm1 (fun _ _ => weightI_bd _ _) bv
theorem dturn_W (c : Cfg) (hc : c.ok) (u : World) (p : Nat) (vv : Value) (v : Nat → Int) (hv : IntsT u vv c.width v) (hp : p ≤ 1000) (bv : ∀ j, -4095 ≤ v j ∧ v j ≤ 4095) :
   Calls Try.prog 70 #[vv, .int .i64 p, .int .i64 c.pairs] u fun e w' => ∃ r, e = .returned r ∧ IntsT w' r c.width (turnOf c.pairs p v) ∧ Below u.heap.size u w' := by
 have e : c.width = 2 * (c.heads * c.pairs) := by unfold Cfg.width; rw [Nat.mul_assoc]
 have hw := c.width_bd hc
 rw [e] at hv ⊢
 exact dturn_any (c.heads * c.pairs) c.pairs p vv v u hv (by omega) (by omega) hc.pairs.1 hc.pairs.2 hp bv
theorem dtimes_F (c : Cfg) (u : World) (start n m : Nat) (vm vv : Value) (v : Nat → Int) (hm : MatW u vm c start n m) (hv : IntsT u vv m v) (hn : n ≤ 100) (hm1 : m ≤ 100) (bv : ∀ j, -4095 ≤ v j ∧ v j ≤ 4095) :
   Calls Try.prog 57 #[vm, vv] u fun e w' => ∃ b, e = .returned (.slice (some ⟨b, 0, none⟩) n n) ∧ OwnI u.heap.size w' b n n (mulAt c.weight start m v) ∧ Below u.heap.size u w' :=
 (dtimes_own n m vm vv _ v u hm hv hn hm1 (fun _ _ => weightI_bd _ _) bv).mono (by rintro e w' ⟨rfl, hr, hb⟩; exact ⟨_, rfl, OwnI.of_row hr (Nat.le_refl _) (by unfold maxLen; omega), hb⟩)
theorem okV.of_own {b base n c : Nat} {a : Nat} (h : base ≤ b) : okV (fun k => base ≤ k) (.slice (some ⟨b, a, none⟩) n c) := by
 intro a n c e; cases e; exact h
theorem dtimes_G (c : Cfg) (u : World) (start n m : Nat) (vm vv : Value) (v : Nat → Int) (hm : MatW u vm c start n m) (hv : IntsT u vv m v) (hn : n ≤ 100) (hm1 : m ≤ 100) (bv : ∀ j, -4095 ≤ v j ∧ v j ≤ 4095) :
   Calls Try.prog 57 #[vm, vv] u fun e w' => ∃ r, e = .returned r ∧ IntsT w' r n (mulAt c.weight start m v) ∧ Below u.heap.size u w' ∧ okV (fun b => u.heap.size ≤ b) r :=
 (dtimes_F c u start n m vm vv v hm hv hn hm1 bv).mono (by rintro e w' ⟨b, rfl, hr, hb⟩; exact ⟨_, rfl, hr.ints, hb, okV.of_own hr.ge⟩)
theorem dturn_F (c : Cfg) (hc : c.ok) (u : World) (p : Nat) (vv : Value) (v : Nat → Int) (hv : IntsT u vv c.width v) (hp : p ≤ 1000) (bv : ∀ j, -4095 ≤ v j ∧ v j ≤ 4095) :
   Calls Try.prog 70 #[vv, .int .i64 p, .int .i64 c.pairs] u fun e w' => ∃ r, e = .returned r ∧ IntsT w' r c.width (turnOf c.pairs p v) ∧ Below u.heap.size u w' ∧ okV (fun b => u.heap.size ≤ b) r := by
 have e : c.width = 2 * (c.heads * c.pairs) := by unfold Cfg.width; rw [Nat.mul_assoc]
 have hw := c.width_bd hc
 rw [e] at hv ⊢
 exact (dturn_own (c.heads * c.pairs) c.pairs p vv v u hv (by omega) (by omega) hc.pairs.1 hc.pairs.2 hp bv).mono (by rintro e w' ⟨r, rfl, hr, hb⟩; exact ⟨r, rfl, IntsT.of_owns hr, hb, okV.of_owns hr⟩)
theorem mems_push {u : World} {base p m : Nat} {v a b : Value} {F : Nat → Value} {kf vf : Nat → Nat → Int} {ka vb : Nat → Int} (hown : u.ownsRow base 113 2 v (p + 1) ((List.range (p * 2)).map F ++ [a, b]))
   (hk : ∀ t, t < p → IntsT u (F (t * 2)) m (kf t)) (hv : ∀ t, t < p → IntsT u (F (t * 2 + 1)) m (vf t)) (ha : IntsT u a m ka) (hb : IntsT u b m vb) :
   Mems u v (p + 1) m (fun t => if t = p then ka else kf t) (fun t => if t = p then vb else vf t) := by
 have e : (List.range (p * 2)).map F ++ [a, b] = (List.range ((p + 1) * 2)).map (fun j => if j = p * 2 then a else if j = p * 2 + 1 then b else F j) := by
   rw [show (p + 1) * 2 = p * 2 + 2 by omega, range_map_two]
   simp only [if_pos, if_neg (show ¬ p * 2 + 1 = p * 2 by omega)]
   congr 1
   apply List.map_congr_left
   intro j hj
   have := List.mem_range.1 hj
   rw [if_neg (by omega), if_neg (by omega)]
 rw [e] at hown
 refine Mems.of_owns hown (fun t ht => ?_) (fun t ht => ?_)
 · by_cases h : t = p
   · subst h; simp only [if_pos]; exact ha
   · rw [if_neg (by omega), if_neg (by omega), if_neg h]; exact hk t (by omega)
 · by_cases h : t = p
   · subst h; rw [if_neg (by omega), if_pos rfl, if_pos rfl]; exact hb
   · rw [if_neg (by omega), if_neg (by omega), if_neg h]; exact hv t (by omega)
def DealI (w : World) (D : Nat) (s : Int) (n : Nat) : Prop := w.heap[D]? = some (.cells #[.int .u64 s, .int .u64 n] 123 (0, 0))
def rowsLaid (base k j : Nat) (m : Nat) : Value := if j < k then .slice (some ⟨base + j, 0, none⟩) m m else .slice none 0 0
structure Dealt (w wr : World) (D rows m start : Nat) (s : Int) (k : Nat) : Prop where
 row : wr.rowIs w.heap.size 24 rows (fun i => rowsLaid (w.heap.size + 1) k i m)
 done : ∀ i, i < k → wr.rowIs (w.heap.size + 1 + i) 3 m (fun j => .int .i64 (weightI s (start + i * m + j)))
 deal : DealI wr D s (start + k * m)
 size : wr.heap.size = w.heap.size + 1 + k
 other : ∀ x, x < w.heap.size → x ≠ D → wr.heap[x]? = w.heap[x]?
 os : wr.os = w.os
 tape : wr.tape = w.tape
 output : wr.output = w.output
structure Dealing (w wr : World) (D rows m start : Nat) (s : Int) (k j : Nat) : Prop where
 row : wr.rowIs w.heap.size 24 rows (fun i => rowsLaid (w.heap.size + 1) (k + 1) i m)
 done : ∀ i, i < k → wr.rowIs (w.heap.size + 1 + i) 3 m (fun j => .int .i64 (weightI s (start + i * m + j)))
 cur : wr.rowIs (w.heap.size + 1 + k) 3 m (fun i => .int .i64 (filled (fun j => weightI s (start + k * m + j)) j i))
 deal : DealI wr D s (start + k * m + j)
 size : wr.heap.size = w.heap.size + 1 + (k + 1)
 other : ∀ x, x < w.heap.size → x ≠ D → wr.heap[x]? = w.heap[x]?
 os : wr.os = w.os
 tape : wr.tape = w.tape
 output : wr.output = w.output
theorem Dealt.next {w wr : World} {D rows m start k : Nat} {s : Int} (h : Dealt w wr D rows m start s k) (hD : D < w.heap.size) :
   Dealing w ((wr.alloc (.cells (madeCells #[.int .i64 0] m) 3)).setCell ⟨w.heap.size, k, none⟩ (.slice (some ⟨w.heap.size + 1 + k, 0, none⟩) m m)) D rows m start s k 0 := by
 have hsz := h.size
 refine ⟨(((h.row.alloc _).set k _).congr (fun i _ => ?_)), fun i hi => ((h.done i hi).alloc _).setOther (by simp; omega) _, ?_, ?_, by simp [World.setCell]; omega, fun x hx hne => ?_, h.os, h.tape, h.output⟩
 · unfold rowsLaid
   by_cases e : i = k
   · subst e; simp
   · rw [if_neg e]
     by_cases h1 : i < k
     · rw [if_pos h1, if_pos (by omega)]
     · rw [if_neg h1, if_neg (by omega)]
 · have h1 := fill_start wr m (fun j => weightI s (start + k * m + j))
   rw [hsz] at h1
   exact h1.setOther (by simp; omega) _
 · show (World.setCell _ _ _).heap[D]? = _
   rw [setCell_far _ _ _ _ _ (by omega), alloc_old _ _ _ (by omega)]
   exact h.deal
 · rw [setCell_far _ _ _ _ _ (by omega), alloc_old _ _ _ (by omega)]
   exact h.other x hx hne
theorem Dealing.next {w wr : World} {D rows m start k j : Nat} {s : Int} (h : Dealing w wr D rows m start s k j) (hD : D < w.heap.size) (_hn : start + k * m + j < 100000) :
   Dealing w ((wr.setCell ⟨w.heap.size + 1 + k, j, none⟩ (.int .i64 (weightI s (start + k * m + j)))).setCell ⟨D, 1, none⟩ (.int .u64 ((start + k * m + j + 1 : Nat) : Int))) D rows m start s k (j + 1) := by
 refine ⟨(h.row.setOther (by simp; omega) _).setOther (by simp; omega) _, fun i hi => ((h.done i hi).setOther (by simp; omega) _).setOther (by simp; omega) _, (fill_step h.cur rfl).setOther (by simp; omega) _, ?_, by simp [World.setCell]; exact h.size, fun x hx hne => ?_, h.os, h.tape, h.output⟩
 · show (World.setCell _ _ _).heap[D]? = _
   have h1 : (wr.setCell ⟨w.heap.size + 1 + k, j, none⟩ (.int .i64 (weightI s (start + k * m + j)))).heap[D]? = some (Obj.cells #[.int .u64 s, .int .u64 ((start + k * m + j : Nat) : Int)] 123 (0, 0)) := by
     rw [setCell_far _ _ _ _ _ (by omega)]; exact h.deal
   rw [setCell_blk h1]; rfl
 · rw [setCell_far _ _ _ _ _ hne, setCell_far _ _ _ _ _ (by omega)]
   exact h.other x hx hne
theorem Dealing.drew {w wr : World} {D rows m start k j : Nat} {s : Int} (h : Dealing w wr D rows m start s k j) : Dealing w wr.drew D rows m start s k j :=
 ⟨h.row, h.done, h.cur, h.deal, h.size, h.other, h.os, h.tape, h.output⟩
theorem Dealing.done' {w wr : World} {D rows m start k : Nat} {s : Int} (h : Dealing w wr D rows m start s k m) : Dealt w wr D rows m start s (k + 1) := by
 refine ⟨h.row, fun i hi => ?_, ?_, by rw [h.size], h.other, h.os, h.tape, h.output⟩
 · by_cases e : i = k
   · subst e
     exact h.cur.congr (fun j hj => by simp only [filled, if_pos hj])
   · exact h.done i (by omega)
 · have := h.deal
   rw [Nat.add_assoc] at this
   rw [Nat.add_mul, Nat.one_mul]; exact this
set_option maxRecDepth 100000 in
set_option maxHeartbeats 1000000 in
theorem matrix_any (D rows m start : Nat) (s : Int) (w : World) (hD : DealI w D s start) (hs : 0 ≤ s ∧ s < 18446744073709551616) (hr : rows ≤ 100) (hm : m ≤ 100) (hst : start + rows * m ≤ 50000) :
   Calls Try.prog 65 #[.pointer (some ⟨D, 0, none⟩), .int .i64 rows, .int .i64 m] w fun e w' =>
     e = .returned (.slice (some ⟨w.heap.size, 0, none⟩) rows rows) ∧ w'.rowIs w.heap.size 24 rows (fun j => .slice (some ⟨w.heap.size + 1 + j, 0, none⟩) m m) ∧
     (∀ i, i < rows → w'.rowIs (w.heap.size + 1 + i) 3 m (fun j => .int .i64 (weightI s (start + i * m + j)))) ∧ DealI w' D s (start + rows * m) ∧
     w'.heap.size = w.heap.size + 1 + rows ∧ (∀ k, k < w.heap.size → k ≠ D → w'.heap[k]? = w.heap[k]?) ∧ w'.os = w.os ∧ w'.tape = w.tape ∧ w'.output = w.output := by
 have hmk := run_make_row' (P := Try.prog) 108 24 (.slice none 0 0) 24 Try.underlying108 (by kernel_rfl) rfl .i64 .i64 rows (by omega) (by omega)
 have hmk2 := run_make_row' (P := Try.prog) 24 3 (.int .i64 0) 8 Try.underlying24 Try.info_int rfl .i64 .i64 m (by omega) (by omega)
 have hDl := lt_blk hD
 go_enter Try.func65, Try.ntmps65
 go_wp2
 clear hmk
 go_loopw [14] (fun i wr => ∃ k : Nat, k ≤ rows ∧ i = .int .i64 k ∧ Dealt w wr D rows m start s k) (fun i _ => rows - (intOf i).toNat)
 case atStart =>
   refine ⟨0, Nat.zero_le _, rfl, (World.rowIs_made w (.slice none 0 0) rows 24).congr (fun i _ => by simp [rowsLaid]), fun i hi => absurd hi (by omega), ?_, by simp, fun x hx _ => alloc_old w _ x hx, rfl, rfl, rfl⟩
   show (World.alloc _ _).heap[D]? = _
   rw [alloc_old _ _ _ hDl, Nat.zero_mul]; exact hD
 case round =>
   obtain ⟨k, hk, rfl, hdt⟩ := hrel
   by_cases hlt : k < rows
   · have hkm : k * m + m ≤ rows * m := by
       have := Nat.mul_le_mul_right m (show k + 1 ≤ rows from hlt)
       rw [Nat.add_mul] at this; omega
     have hsz := hdt.size
     have r1 := hdt.row.cell hlt
     have r2 := hdt.row.frozen k
     have r3 : ∀ o, (wr.alloc o).cell? ⟨w.heap.size, k, none⟩ = some (rowsLaid (w.heap.size + 1) k k m) := fun o => (World.cell?_alloc_past _ _ _ (by omega)).trans r1
     have r4 : ∀ o, (wr.alloc o).frozen? ⟨w.heap.size, k, none⟩ = false := fun o => (World.frozen?_alloc_past _ _ _ (by omega)).trans r2
     have hdg := hdt.next hDl
     have Hdg := hide hdg
     clear hdg
     go_wp2
     generalize (wr.alloc (.cells (madeCells #[.int .i64 0] m) 3)).setCell ⟨w.heap.size, k, none⟩ (.slice (some ⟨w.heap.size + 1 + k, 0, none⟩) m m) = W2 at Hdg ⊢
     clear hmk2 r1 r2 r3 r4 hsz hdt
     go_loopw [27] (fun i wr => ∃ j : Nat, j ≤ m ∧ i = .int .i64 j ∧ Dealing w wr D rows m start s k j) (fun i _ => m - (intOf i).toNat)
     case atStart => exact ⟨0, Nat.zero_le _, rfl, Hdg.out⟩
     case round =>
       obtain ⟨j, hj, rfl, hdg⟩ := hrel
       by_cases hjl : j < m
       · obtain ⟨N, hN⟩ : ∃ N, N = start + k * m + j := ⟨_, rfl⟩
         have HN := hide hN
         have q1 : wr.cell? ⟨w.heap.size, k, none⟩ = some (.slice (some ⟨w.heap.size + 1 + k, 0, none⟩) m m) := by
           rw [hdg.row.cell hlt]; unfold rowsLaid; rw [if_pos (by omega)]
         have hdl := hdg.deal
         rw [← hN] at hdl
         have q2 : wr.cell? ⟨D, 0, none⟩ = some (.int .u64 s) := by rw [cell_blk hdl]; rfl
         have q3 : wr.cell? ⟨D, 1, none⟩ = some (.int .u64 N) := by rw [cell_blk hdl]; rfl
         have q4 := frozen_blk hdl 1
         have q5 := hdg.cur.cell hjl
         have q6 := hdg.cur.frozen j
         have n1 : ¬ w.heap.size + 1 + k = w.heap.size := by omega
         have n2 : ¬ w.heap.size + 1 + k = D := by omega
         have n3 : ¬ w.heap.size = w.heap.size + 1 + k := by omega
         have n4 : ¬ D = w.heap.size + 1 + k := by omega
         have hwrap : IntKind.u64.wrap ((N : Int) + 1) = (N : Int) + 1 := by rw [u64_wrap]; omega
         have i1 : (0 : Int) ≤ (k : Int) := by omega
         have i2 : (k : Int) < (rows : Int) := by omega
         have i3 : (0 : Int) ≤ (j : Int) := by omega
         have i4 : (j : Int) < (m : Int) := by omega
         have hnx := hdg.next hDl (by omega)
         rw [← hN] at hnx
         have Hnx := hide hnx
         have hNb : N ≤ 100000 := by omega
         clear hnx hdl hN hdg
         go_wp2
         go_region_held3 (fun w' => w'.cell? ⟨w.heap.size, k, none⟩ = some (.slice (some ⟨w.heap.size + 1 + k, 0, none⟩) m m) ∧ w'.cell? ⟨D, 0, none⟩ = some (.int .u64 s) ∧ w'.cell? ⟨D, 1, none⟩ = some (.int .u64 N))
           (go_keep)
           (first
             | (go_at_call 80; refine Calls_use (weight_any s N _ hs hNb) ?_))
         have z3 : (wr.setCell ⟨w.heap.size + 1 + k, j, none⟩ (.int .i64 (weightI s N))).cell? ⟨D, 1, none⟩ = some (.int .u64 N) := by rw [World.cell?_setCell_other _ _ _ _ (by simp)]; exact q3
         have z4 : (wr.setCell ⟨w.heap.size + 1 + k, j, none⟩ (.int .i64 (weightI s N))).frozen? ⟨D, 1, none⟩ = false := (World.frozen?_setCell _ _ _ _).trans q4
         go_wp2
         go_roundw
         case rel => exact ⟨j + 1, by omega, by go_num, (Hnx.out).drew⟩
         case measure => simp [intOf]; omega
       · have hjm : m = j := by omega
         subst hjm
         have hdn := hdg.done'
         clear hdg
         go_wp2
         go_roundw
         case rel => exact ⟨k + 1, by omega, by go_num, hdn⟩
         case measure => simp [intOf]; omega
   · have hkr : k = rows := by omega
     subst hkr
     go_wp2
     go_ret
     exact ⟨rfl, hdt.row.congr (fun i hi => by unfold rowsLaid; rw [if_pos hi]), hdt.done, hdt.deal, hdt.size, hdt.other, hdt.os, hdt.tape, hdt.output⟩
def logitsOf (c : Cfg) (x : Nat → Int) : Nat → Int := mulAt c.weight c.headAt c.width (normOf c.width x)
end Go.Proofs.Ytlmflighkkgikaa
