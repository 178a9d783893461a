import Derived.Deep.CutRange
import Derived.Test.YtaidjhlijadmiaaP11
import Derived.Test.YtaidjhlijadmiaaP23

/-
  The program's model, and a token's way through its layers.
-/
namespace Go.Proofs.Ytaidjhlijadmiaa
open Go.RowKit
attribute [local go_sem ↓] Go.wp_at_zero Go.wp_at_succ

/-- A matrix whose weights begin at a number. -/
def MatW (w : World) (v : Value) (c : Cfg) (start n m : Nat) : Prop := MatT w v n m (fun i j => c.weight (start + i * m + j))

theorem MatW.below {w w' : World} {v : Value} {c : Cfg} {s n m : Nat} (h : MatW w v c s n m) (hb : Below w.heap.size w w') : MatW w' v c s n m := MatT.below h hb

def Cfg.headAt (c : Cfg) : Nat := c.vocab * c.width + c.layers * 8 * c.ww

/-- The six matrices of a layer. -/
structure LayerI (w : World) (c : Cfg) (l : Nat) (v0 v1 v2 v3 v4 v5 : Value) : Prop where
  q : MatW w v0 c (c.from l) c.width c.width
  k : MatW w v1 c (c.from l + c.ww) c.width c.width
  v : MatW w v2 c (c.from l + 2 * c.ww) c.width c.width
  o : MatW w v3 c (c.from l + 3 * c.ww) c.width c.width
  up : MatW w v4 c (c.from l + 4 * c.ww) (2 * c.width) c.width
  down : MatW w v5 c (c.from l + 6 * c.ww) c.width (2 * c.width)

theorem LayerI.below {w w' : World} {c : Cfg} {l : Nat} {v0 v1 v2 v3 v4 v5 : Value} (h : LayerI w c l v0 v1 v2 v3 v4 v5) (hb : Below w.heap.size w w') : LayerI w' c l v0 v1 v2 v3 v4 v5 :=
  ⟨h.q.below hb, h.k.below hb, h.v.below hb, h.o.below hb, h.up.below hb, h.down.below hb⟩

/-- The model lies at M. -/
structure ModelI (w : World) (M : Nat) (c : Cfg) (vE vH : Value) (bL oL cL : Nat) : Prop where
  obj : w.heap[M]? = some (.cells #[.int .i64 c.pairs, vE, vH, .slice (some ⟨bL, oL, none⟩) c.layers cL] 135 (0, 0))
  emb : MatW w vE c 0 c.vocab c.width
  head : MatW w vH c c.headAt c.vocab c.width
  lt : bL < w.heap.size
  cap : c.layers ≤ cL
  layer : ∀ l, l < c.layers → ∃ v0 v1 v2 v3 v4 v5, w.cell? ⟨bL, oL + l * 6, none⟩ = some v0 ∧ w.cell? ⟨bL, oL + l * 6 + 1, none⟩ = some v1 ∧ w.cell? ⟨bL, oL + l * 6 + 2, none⟩ = some v2 ∧
    w.cell? ⟨bL, oL + l * 6 + 3, none⟩ = some v3 ∧ w.cell? ⟨bL, oL + l * 6 + 4, none⟩ = some v4 ∧ w.cell? ⟨bL, oL + l * 6 + 5, none⟩ = some v5 ∧ LayerI w c l v0 v1 v2 v3 v4 v5

theorem ModelI.below {w w' : World} {M : Nat} {c : Cfg} {vE vH : Value} {bL oL cL : Nat} (h : ModelI w M c vE vH bL oL cL) (hb : Below w.heap.size w w') : ModelI w' M c vE vH bL oL cL := by
  refine ⟨by rw [hb.block M (lt_blk h.obj)]; exact h.obj, h.emb.below hb, h.head.below hb, Nat.lt_of_lt_of_le h.lt hb.size, h.cap, fun l hl => ?_⟩
  obtain ⟨v0, v1, v2, v3, v4, v5, c0, c1, c2, c3, c4, c5, hL⟩ := h.layer l hl
  exact ⟨v0, v1, v2, v3, v4, v5, (hb.cell (p := ⟨bL, _, none⟩) h.lt).trans c0, (hb.cell (p := ⟨bL, _, none⟩) h.lt).trans c1, (hb.cell (p := ⟨bL, _, none⟩) h.lt).trans c2, (hb.cell (p := ⟨bL, _, none⟩) h.lt).trans c3, (hb.cell (p := ⟨bL, _, none⟩) h.lt).trans c4, (hb.cell (p := ⟨bL, _, none⟩) h.lt).trans c5, hL.below hb⟩

theorem mat_slice {w : World} {v : Value} {n m : Nat} {f : Nat → Nat → Int} (h : MatT w v n m f) : ∃ a c, v = .slice a n c := by
  obtain ⟨_, ⟨a, c, rfl, _⟩, _⟩ := h
  exact ⟨a, c, rfl⟩

/-- What stands at a layer's head, behind what is kept of the positions ahead. -/
def xAt (c : Cfg) (p tok : Nat) (kf vf : Nat → Nat → Nat → Int) : Nat → Nat → Int
  | 0 => fun i => cutI (64 * c.weight (tok * c.width + i))
  | l + 1 => xNext c l p (xAt c p tok kf vf l) (fun t => if t = p then kNew c l p (xAt c p tok kf vf l) else kf t l) (fun t => if t = p then vNew c l (xAt c p tok kf vf l) else vf t l)

theorem xAt_bd (c : Cfg) (p tok : Nat) (kf vf : Nat → Nat → Nat → Int) (l i : Nat) : -4095 ≤ xAt c p tok kf vf l i ∧ xAt c p tok kf vf l i ≤ 4095 := by
  cases l with
  | zero => exact cutI_bd _
  | succ l => exact plusOf_bd _ _ _

theorem dtimes_W (c : Cfg) (u : World) (start n m : Nat) (vm vv : Value) (v : Nat → Int) (hm : MatW u vm c start n m) (hv : IntsT u vv m v) (hn : n ≤ 100) (hm1 : m ≤ 100) (bv : ∀ j, -4095 ≤ v j ∧ v j ≤ 4095) :
    Calls Try.prog 82 #[vm, vv] u fun e w' => ∃ r, e = .returned r ∧ IntsT w' r n (mulAt c.weight start m v) ∧ Below u.heap.size u w' :=
  dtimes_any n m vm vv _ v u hm hv hn hm1 (fun _ _ => weightI_bd _ _) bv

theorem dturn_W (c : Cfg) (hc : c.ok) (u : World) (p : Nat) (vv : Value) (v : Nat → Int) (hv : IntsT u vv c.width v) (hp : p ≤ 1000) (bv : ∀ j, -4095 ≤ v j ∧ v j ≤ 4095) :
    Calls Try.prog 81 #[vv, .int .i64 p, .int .i64 c.pairs] u fun e w' => ∃ r, e = .returned r ∧ IntsT w' r c.width (turnOf c.pairs p v) ∧ Below u.heap.size u w' := by
  have e : c.width = 2 * (c.heads * c.pairs) := by unfold Cfg.width; rw [Nat.mul_assoc]
  have hw := c.width_bd hc
  rw [e] at hv ⊢
  exact dturn_any (c.heads * c.pairs) c.pairs p vv v u hv (by omega) (by omega) hc.pairs.1 hc.pairs.2 hp bv

theorem dtimes_F (c : Cfg) (u : World) (start n m : Nat) (vm vv : Value) (v : Nat → Int) (hm : MatW u vm c start n m) (hv : IntsT u vv m v) (hn : n ≤ 100) (hm1 : m ≤ 100) (bv : ∀ j, -4095 ≤ v j ∧ v j ≤ 4095) :
    Calls Try.prog 82 #[vm, vv] u fun e w' => ∃ b, e = .returned (.slice (some ⟨b, 0, none⟩) n n) ∧ OwnI u.heap.size w' b n n (mulAt c.weight start m v) ∧ Below u.heap.size u w' :=
  (dtimes_own n m vm vv _ v u hm hv hn hm1 (fun _ _ => weightI_bd _ _) bv).mono (by rintro e w' ⟨rfl, hr, hb⟩; exact ⟨_, rfl, OwnI.of_row hr (Nat.le_refl _) (by unfold maxLen; omega), hb⟩)

theorem okV.of_own {b base n c : Nat} {a : Nat} (h : base ≤ b) : okV (fun k => base ≤ k) (.slice (some ⟨b, a, none⟩) n c) := by
  intro a n c e; cases e; exact h

theorem dtimes_G (c : Cfg) (u : World) (start n m : Nat) (vm vv : Value) (v : Nat → Int) (hm : MatW u vm c start n m) (hv : IntsT u vv m v) (hn : n ≤ 100) (hm1 : m ≤ 100) (bv : ∀ j, -4095 ≤ v j ∧ v j ≤ 4095) :
    Calls Try.prog 82 #[vm, vv] u fun e w' => ∃ r, e = .returned r ∧ IntsT w' r n (mulAt c.weight start m v) ∧ Below u.heap.size u w' ∧ okV (fun b => u.heap.size ≤ b) r :=
  (dtimes_F c u start n m vm vv v hm hv hn hm1 bv).mono (by rintro e w' ⟨b, rfl, hr, hb⟩; exact ⟨_, rfl, hr.ints, hb, okV.of_own hr.ge⟩)

theorem dturn_F (c : Cfg) (hc : c.ok) (u : World) (p : Nat) (vv : Value) (v : Nat → Int) (hv : IntsT u vv c.width v) (hp : p ≤ 1000) (bv : ∀ j, -4095 ≤ v j ∧ v j ≤ 4095) :
    Calls Try.prog 81 #[vv, .int .i64 p, .int .i64 c.pairs] u fun e w' => ∃ r, e = .returned r ∧ IntsT w' r c.width (turnOf c.pairs p v) ∧ Below u.heap.size u w' ∧ okV (fun b => u.heap.size ≤ b) r := by
  have e : c.width = 2 * (c.heads * c.pairs) := by unfold Cfg.width; rw [Nat.mul_assoc]
  have hw := c.width_bd hc
  rw [e] at hv ⊢
  exact (dturn_own (c.heads * c.pairs) c.pairs p vv v u hv (by omega) (by omega) hc.pairs.1 hc.pairs.2 hp bv).mono (by rintro e w' ⟨r, rfl, hr, hb⟩; exact ⟨r, rfl, IntsT.of_owns hr, hb, okV.of_owns hr⟩)

/-- One memory more. -/
theorem mems_push {u : World} {base p m : Nat} {v a b : Value} {F : Nat → Value} {kf vf : Nat → Nat → Int} {ka vb : Nat → Int} (hown : u.ownsRow base 147 2 v (p + 1) ((List.range (p * 2)).map F ++ [a, b]))
    (hk : ∀ t, t < p → IntsT u (F (t * 2)) m (kf t)) (hv : ∀ t, t < p → IntsT u (F (t * 2 + 1)) m (vf t)) (ha : IntsT u a m ka) (hb : IntsT u b m vb) :
    Mems u v (p + 1) m (fun t => if t = p then ka else kf t) (fun t => if t = p then vb else vf t) := by
  have e : (List.range (p * 2)).map F ++ [a, b] = (List.range ((p + 1) * 2)).map (fun j => if j = p * 2 then a else if j = p * 2 + 1 then b else F j) := by
    rw [show (p + 1) * 2 = p * 2 + 2 by omega, range_map_two]
    simp only [if_pos, if_neg (show ¬ p * 2 + 1 = p * 2 by omega)]
    congr 1
    apply List.map_congr_left
    intro j hj
    have := List.mem_range.1 hj
    rw [if_neg (by omega), if_neg (by omega)]
  rw [e] at hown
  refine Mems.of_owns hown (fun t ht => ?_) (fun t ht => ?_)
  · by_cases h : t = p
    · subst h; simp only [if_pos]; exact ha
    · rw [if_neg (by omega), if_neg (by omega), if_neg h]; exact hk t (by omega)
  · by_cases h : t = p
    · subst h; rw [if_neg (by omega), if_pos rfl, if_pos rfl]; exact hb
    · rw [if_neg (by omega), if_neg (by omega), if_neg h]; exact hv t (by omega)

/-- The statement 'cell[i] = Memory{..}'. -/
theorem cell_step {w u : World} {CB L l : Nat} {G : Nat → Value × Value} (a b : Value) (hrow : u.rowIs CB 147 (L * 2) (paired G l)) (hB : Below w.heap.size w u) (hge : w.heap.size ≤ CB) :
    Below w.heap.size w ((u.setCell ⟨CB, l * 2, none⟩ a).setCell ⟨CB, l * 2 + 1, none⟩ b) ∧ KeepT 3 u ((u.setCell ⟨CB, l * 2, none⟩ a).setCell ⟨CB, l * 2 + 1, none⟩ b) ∧
    ((u.setCell ⟨CB, l * 2, none⟩ a).setCell ⟨CB, l * 2 + 1, none⟩ b).rowIs CB 147 (L * 2) (paired (fun t => if t = l then (a, b) else G t) (l + 1)) ∧
    (∀ k, k ≠ CB → ((u.setCell ⟨CB, l * 2, none⟩ a).setCell ⟨CB, l * 2 + 1, none⟩ b).heap[k]? = u.heap[k]?) ∧ ((u.setCell ⟨CB, l * 2, none⟩ a).setCell ⟨CB, l * 2 + 1, none⟩ b).heap.size = u.heap.size := by
  obtain ⟨arr, h1, h2, h3⟩ := id hrow
  refine ⟨(hB.setCell hge _).setCell hge _, (KeepT.setCell h1 (by decide) _).trans (KeepT.setCell (setCell_blk h1 _ _) (by decide) _), ((hrow.set (l * 2) a).set (l * 2 + 1) b).congr (fun i _ => ?_), fun k hk => ?_, by simp [World.setCell]⟩
  · by_cases e1 : i = l * 2 + 1
    · subst e1
      rw [if_pos rfl]
      unfold paired
      rw [if_pos (by omega), if_neg (by omega), show (l * 2 + 1) / 2 = l by omega]; simp
    · rw [if_neg e1]
      by_cases e2 : i = l * 2
      · subst e2
        rw [if_pos rfl]
        unfold paired
        rw [if_pos (by omega), if_pos (by omega), show l * 2 / 2 = l by omega]; simp
      · rw [if_neg e2]
        unfold paired
        by_cases e3 : i < l * 2
        · rw [if_pos e3, if_pos (show i < (l + 1) * 2 by omega)]
          simp only [if_neg (show ¬ i / 2 = l by omega)]
        · rw [if_neg e3, if_neg (by omega)]
  · rw [setCell_far _ _ _ _ _ hk, setCell_far _ _ _ _ _ hk]

set_option maxRecDepth 100000 in
set_option maxHeartbeats 4000000 in
theorem pass_any (c : Cfg) (hc : c.ok) (M tok p : Nat) (vp vE vH : Value) (bL oL cL : Nat) (kf vf : Nat → Nat → Nat → Int) (w : World) (hM : ModelI w M c vE vH bL oL cL) (hP : Past w vp p c.layers c.width kf vf) (ht : tok < c.vocab) (hp : p ≤ 100)
    (bk : ∀ t l j, -4095 ≤ kf t l j ∧ kf t l j ≤ 4095) (bv : ∀ t l j, -4095 ≤ vf t l j ∧ vf t l j ≤ 4095) :
    Calls Try.prog 67 #[.pointer (some ⟨M, 0, none⟩), .int .i64 tok, vp] w fun e w' =>
      ∃ r cell, e = .returned (.tuple #[r, cell]) ∧ IntsT w' r c.width (xAt c p tok kf vf c.layers) ∧ CellI (fun b => w.heap.size ≤ b) w' cell c.layers c.width (fun l => kNew c l p (xAt c p tok kf vf l)) (fun l => vNew c l (xAt c p tok kf vf l)) ∧ Below w.heap.size w w' := by
  obtain ⟨i0, hi, hz0, hz1, hz2⟩ := info_parts Try.info_mem
  obtain ⟨w1, w2⟩ := c.width_bd hc
  obtain ⟨e1, e2⟩ := hc.layers
  obtain ⟨d1, d2⟩ := hc.vocab
  have hMl := lt_blk hM.obj
  have m0 : w.cell? ⟨M, 0, none⟩ = some (.int .i64 c.pairs) := by rw [cell_blk hM.obj]; rfl
  have m1 : w.cell? ⟨M, 1, none⟩ = some vE := by rw [cell_blk hM.obj]; rfl
  have m3 : w.cell? ⟨M, 3, none⟩ = some (.slice (some ⟨bL, oL, none⟩) c.layers cL) := by rw [cell_blk hM.obj]; rfl
  obtain ⟨es, ⟨aE, cE, rfl, hE1, _, hE3⟩, hEr⟩ := hM.emb
  obtain ⟨bE, oE, rfl, hbE, hcE⟩ := hE3 (by omega)
  have cE1 := hcE tok ht
  have hemb := hEr tok ht
  obtain ⟨ap, cp, rfl⟩ : ∃ a c, vp = .slice a p c := by obtain ⟨_, ⟨a, c, rfl, _⟩, _⟩ := hP; exact ⟨a, c, rfl⟩
  have hmk := fun w => run_make (P := Try.prog) w 125 147 i0 _ Try.underlying125 hi hz0 .i64 .i64 c.layers c.layers (by omega) (Int.le_refl _) (by rw [hz2]; omega) (by omega)
  rw [hz1] at hmk
  clear hcE hE3 hEr
  go_enter Try.func67, Try.ntmps67
  go_wp2_with fail
  refine (emb_any c.width (es tok) _ _ hemb (by omega) (fun j => weightI_bd _ _)).mono ?_
  rintro e W1 ⟨vx, rfl, hx, hb1⟩
  have m3' := (hb1.cell (p := ⟨M, 3, none⟩) hMl).trans m3
  have hcl : ∀ o, (W1.alloc o).cell? ⟨M, 3, none⟩ = some (.slice (some ⟨bL, oL, none⟩) c.layers cL) := fun o => (World.cell?_alloc_past _ _ _ (by have := hb1.size; omega)).trans m3'
  clear cE1
  go_wp2
  clear hmk hcl m3'
  go_loopw [9, 39] (fun x i wr => ∃ (l : Nat) (G : Nat → Value × Value), l ≤ c.layers ∧ i = .int .i64 l ∧ IntsT wr x c.width (xAt c p tok kf vf l) ∧ wr.rowIs W1.heap.size 147 (c.layers * 2) (paired G l) ∧
      (∀ t, t < l → IntsT wr (G t).1 c.width (kNew c t p (xAt c p tok kf vf t)) ∧ IntsT wr (G t).2 c.width (vNew c t (xAt c p tok kf vf t))) ∧ (∀ t, t < l → okV (fun b => w.heap.size ≤ b) (G t).1 ∧ okV (fun b => w.heap.size ≤ b) (G t).2) ∧ Below w.heap.size w wr) (fun _ i _ => c.layers - (intOf i).toNat)
  case atStart =>
    refine ⟨0, fun _ => (undef, undef), Nat.zero_le _, rfl, ?_, ?_, fun t ht => absurd ht (by omega), fun t ht => absurd ht (by omega), hb1.alloc hb1.size _⟩
    · refine (hx.congr (fun j _ => ?_)).keep (KeepT.alloc _ _)
      simp only [xAt, Nat.zero_add]
    · refine ⟨_, alloc_new W1 _, by simp [madeCells], fun i hi => ?_⟩
      have h2 : i % 2 = 0 ∨ i % 2 = 1 := by omega
      rcases h2 with h2 | h2 <;> simp [madeCells, hi, h2, paired]
  case round =>
    obtain ⟨l, G, hl, rfl, hx, hrow, hG, hGo, hbel⟩ := hrel
    have HG := hide hG
    have HGo := hide hGo
    clear hG hGo hemb m1
    by_cases hlt : l < c.layers
    · obtain ⟨v0, v1, v2, v3, v4, v5, c0, c1, c2, c3, c4, c5, hL⟩ := hM.layer l hlt
      replace c0 := (hbel.cell (p := ⟨bL, oL + l * 6, none⟩) hM.lt).trans c0
      replace c1 := (hbel.cell (p := ⟨bL, oL + l * 6 + 1, none⟩) hM.lt).trans c1
      replace c2 := (hbel.cell (p := ⟨bL, oL + l * 6 + 2, none⟩) hM.lt).trans c2
      replace c3 := (hbel.cell (p := ⟨bL, oL + l * 6 + 3, none⟩) hM.lt).trans c3
      replace c4 := (hbel.cell (p := ⟨bL, oL + l * 6 + 4, none⟩) hM.lt).trans c4
      replace c5 := (hbel.cell (p := ⟨bL, oL + l * 6 + 5, none⟩) hM.lt).trans c5
      obtain ⟨a0, k0, rfl⟩ := mat_slice hL.q
      obtain ⟨a1, k1, rfl⟩ := mat_slice hL.k
      obtain ⟨a2, k2, rfl⟩ := mat_slice hL.v
      obtain ⟨a3, k3, rfl⟩ := mat_slice hL.o
      obtain ⟨a4, k4, rfl⟩ := mat_slice hL.up
      obtain ⟨a5, k5, rfl⟩ := mat_slice hL.down
      go_wp2_with fail
      have hbW : Below wr.heap.size wr (wr.alloc (.cells #[.slice a0 c.width k0, .slice a1 c.width k1, .slice a2 c.width k2, .slice a3 c.width k3, .slice a4 (2 * c.width) k4, .slice a5 c.width k5] 137)) := (Below.refl _ _).alloc (Nat.le_refl _) _
      have hLB := alloc_new wr (.cells #[.slice a0 c.width k0, .slice a1 c.width k1, .slice a2 c.width k2, .slice a3 c.width k3, .slice a4 (2 * c.width) k4, .slice a5 c.width k5] 137)
      have hszW : (wr.alloc (.cells #[.slice a0 c.width k0, .slice a1 c.width k1, .slice a2 c.width k2, .slice a3 c.width k3, .slice a4 (2 * c.width) k4, .slice a5 c.width k5] 137)).heap.size = wr.heap.size + 1 := by simp
      generalize wr.alloc (.cells #[.slice a0 c.width k0, .slice a1 c.width k1, .slice a2 c.width k2, .slice a3 c.width k3, .slice a4 (2 * c.width) k4, .slice a5 c.width k5] 137) = Wb at hbW hLB hszW ⊢
      have hBb := hbel.trans (hbW.mono hbel.size)
      replace hx := hx.keep (KeepT.of_below hbW)
      replace hrow := hrow.of_block (hbW.block _ hrow.lt)
      have hCB := hrow.lt
      have hLBl := lt_blk hLB
      have hMW : M < Wb.heap.size := by have := hBb.size; omega
      have m0b := (hBb.cell (p := ⟨M, 0, none⟩) hMl).trans m0
      have b0 : Wb.cell? ⟨wr.heap.size, 0, none⟩ = some (.slice a0 c.width k0) := by rw [cell_blk hLB]; rfl
      have b1 : Wb.cell? ⟨wr.heap.size, 1, none⟩ = some (.slice a1 c.width k1) := by rw [cell_blk hLB]; rfl
      have b2 : Wb.cell? ⟨wr.heap.size, 2, none⟩ = some (.slice a2 c.width k2) := by rw [cell_blk hLB]; rfl
      have b3 : Wb.cell? ⟨wr.heap.size, 3, none⟩ = some (.slice a3 c.width k3) := by rw [cell_blk hLB]; rfl
      have b4 : Wb.cell? ⟨wr.heap.size, 4, none⟩ = some (.slice a4 (2 * c.width) k4) := by rw [cell_blk hLB]; rfl
      have b5 : Wb.cell? ⟨wr.heap.size, 5, none⟩ = some (.slice a5 c.width k5) := by rw [cell_blk hLB]; rfl
      generalize wr.heap.size = LB at hLB hLBl b0 b1 b2 b3 b4 b5 hszW ⊢
      have hbW' : Below wr.heap.size wr Wb := hbW
      clear c0 c1 c2 c3 c4 c5 hbW hszW
      have hxb := xAt_bd c p tok kf vf l
      have HXS := hide (show xAt c p tok kf vf (l + 1) = xNext c l p (xAt c p tok kf vf l) (fun t => if t = p then kNew c l p (xAt c p tok kf vf l) else kf t l) (fun t => if t = p then vNew c l (xAt c p tok kf vf l) else vf t l) from rfl)
      generalize hXe : xAt c p tok kf vf l = X at hx hxb HXS ⊢
      have HXe := hide hXe
      clear hXe
      refine (dnorm_any c.width _ X _ hx (by omega) (by omega) hxb).mono ?_
      rintro e u1 ⟨y, rfl, hy, hb⟩
      have hBn := hb
      replace hx := hx.keep (KeepT.of_below hb)
      clear hb
      go_wp2_with fail
      go_region_held3 (fun w' => w'.cell? ⟨LB, 0, none⟩ = some (.slice a0 c.width k0) ∧ w'.cell? ⟨M, 0, none⟩ = some (.int .i64 c.pairs))
        (first
          | (exact ⟨(hBn.cell (p := ⟨LB, 0, none⟩) hLBl).trans b0, (hBn.cell (p := ⟨M, 0, none⟩) hMW).trans m0b⟩))
        (first
          | (go_at_call 82; refine (dtimes_W c _ (c.from l) c.width c.width _ y (normOf c.width X) (by exact (hL.below (hBb.trans (hBn.mono hBb.size))).q) (by exact hy) (by omega) (by omega) (normOf_bd _ _)).mono ?_; rintro e u2 ⟨qq, rfl, hqq, hbA⟩; replace hbA := below_of_drewN (k := 1) hbA; replace hBn := hBn.trans (hbA.mono hBn.size))
          | (go_at_call 81; refine (dturn_W c hc _ p _ _ (by exact hqq) (by omega) (mulAt_bd _ _ _ _)).mono ?_; rintro e u3 ⟨q, rfl, hq, hbB⟩; replace hBn := hBn.trans (hbB.mono hBn.size)))
      have hbC := hbA.trans (hbB.mono hbA.size)
      replace hx := hx.keep (KeepT.of_below hbC)
      replace hy := hy.keep (KeepT.of_below hbC)
      clear hqq hbA hbB hbC
      go_wp2_with fail
      go_region_held3 (fun w' => w'.cell? ⟨LB, 1, none⟩ = some (.slice a1 c.width k1) ∧ w'.cell? ⟨M, 0, none⟩ = some (.int .i64 c.pairs))
        (first
          | (exact ⟨(hBn.cell (p := ⟨LB, 1, none⟩) hLBl).trans b1, (hBn.cell (p := ⟨M, 0, none⟩) hMW).trans m0b⟩))
        (first
          | (go_at_call 82; refine (dtimes_W c _ (c.from l + c.ww) c.width c.width _ y (normOf c.width X) (by exact (hL.below (hBb.trans (hBn.mono hBb.size))).k) (by exact hy) (by omega) (by omega) (normOf_bd _ _)).mono ?_; rintro e u4 ⟨qq, rfl, hqq, hbA⟩; replace hbA := below_of_drewN (k := 1) hbA; replace hBn := hBn.trans (hbA.mono hBn.size))
          | (go_at_call 81; refine (dturn_F c hc _ p _ _ (by exact hqq) (by omega) (mulAt_bd _ _ _ _)).mono ?_; rintro e u5 ⟨kk, rfl, hkk, hbB, hok⟩; replace hok : okV (fun b => w.heap.size ≤ b) kk := hok.mono (fun b hb => Nat.le_trans (Nat.le_trans hBb.size hBn.size) hb); replace hBn := hBn.trans (hbB.mono hBn.size)))
      have hbC := hbA.trans (hbB.mono hbA.size)
      replace hx := hx.keep (KeepT.of_below hbC)
      replace hy := hy.keep (KeepT.of_below hbC)
      replace hq := hq.keep (KeepT.of_below hbC)
      clear hqq hbA hbB hbC
      have b2' := (hBn.cell (p := ⟨LB, 2, none⟩) hLBl).trans b2
      go_wp2_with fail
      refine (dtimes_G c _ (c.from l + 2 * c.ww) c.width c.width _ y (normOf c.width X) (hL.below (hBb.trans (hBn.mono hBb.size))).v hy (by omega) (by omega) (normOf_bd _ _)).mono ?_
      rintro e u6 ⟨vv, rfl, hvv, hb, hov⟩
      replace hov : okV (fun b => w.heap.size ≤ b) vv := hov.mono (fun b hb => Nat.le_trans (Nat.le_trans hBb.size hBn.size) hb)
      have Hov := hide hov
      have Hok := hide hok
      clear hok hov
      replace hBn := hBn.trans (hb.mono hBn.size)
      replace hx := hx.keep (KeepT.of_below hb)
      replace hq := hq.keep (KeepT.of_below hb)
      replace hkk := hkk.keep (KeepT.of_below hb)
      have hrow6 := hrow.of_block (hBn.block _ hCB)
      have r1 := hrow6.cell (show l * 2 < c.layers * 2 by omega)
      have r2 := hrow6.cell (show l * 2 + 1 < c.layers * 2 by omega)
      have r3 := hrow6.frozen (l * 2)
      have r4 := hrow6.frozen (l * 2 + 1)
      obtain ⟨ak, ck, ek, _⟩ := id hkk
      subst ek
      obtain ⟨av, cv, ev, _⟩ := id hvv
      subst ev
      clear hy hb b2' b0 b1 b2
      have hBw6 := hBb.trans (hBn.mono hBb.size)
      have hge1 := hb1.size
      obtain ⟨hBc, hKc, hrowc, hfar, hszc⟩ := cell_step (.slice ak c.width ck) (.slice av c.width cv) hrow6 hBw6 hge1
      have hneL : LB ≠ W1.heap.size := fun e => by
        obtain ⟨arr, h1, _⟩ := hrow
        rw [← e, hLB] at h1
        injection h1 with h1
        injection h1 with _ he _
        exact absurd he (by decide)
      have hLBc := (hfar LB hneL).trans ((hBn.block LB hLBl).trans hLB)
      go_wp2_with fail
      generalize (u6.setCell ⟨W1.heap.size, l * 2, none⟩ (.slice ak c.width ck)).setCell ⟨W1.heap.size, l * 2 + 1, none⟩ (.slice av c.width cv) = Wc at hBc hKc hrowc hfar hszc hLBc ⊢
      replace hx := hx.keep hKc
      replace hq := hq.keep hKc
      replace hkk := hkk.keep hKc
      replace hvv := hvv.keep hKc
      have HGc : Hid (∀ t, t < l → IntsT Wc (G t).1 c.width (kNew c t p (xAt c p tok kf vf t)) ∧ IntsT Wc (G t).2 c.width (vNew c t (xAt c p tok kf vf t))) := fun t ht =>
        ⟨((HG.out t ht).1.keep (KeepT.of_below hbW')).keep ((KeepT.of_below hBn).trans hKc), ((HG.out t ht).2.keep (KeepT.of_below hbW')).keep ((KeepT.of_below hBn).trans hKc)⟩
      have b3 : Wc.cell? ⟨LB, 3, none⟩ = some (.slice a3 c.width k3) := by rw [cell_blk hLBc]; rfl
      have b4 : Wc.cell? ⟨LB, 4, none⟩ = some (.slice a4 (2 * c.width) k4) := by rw [cell_blk hLBc]; rfl
      have b5 : Wc.cell? ⟨LB, 5, none⟩ = some (.slice a5 c.width k5) := by rw [cell_blk hLBc]; rfl
      have m0c := (hBc.cell (p := ⟨M, 0, none⟩) hMl).trans m0
      have r1 : Wc.cell? ⟨W1.heap.size, l * 2, none⟩ = some (.slice ak c.width ck) := by
        rw [hrowc.cell (show l * 2 < c.layers * 2 by omega)]
        unfold paired
        rw [if_pos (by omega), if_pos (by omega), show l * 2 / 2 = l by omega]; simp
      have r2 : Wc.cell? ⟨W1.heap.size, l * 2 + 1, none⟩ = some (.slice av c.width cv) := by
        rw [hrowc.cell (show l * 2 + 1 < c.layers * 2 by omega)]
        unfold paired
        rw [if_pos (by omega), if_neg (by omega), show (l * 2 + 1) / 2 = l by omega]; simp
      have hLBl := lt_blk hLBc
      have hCBl := hrowc.lt
      have hMW := Nat.lt_of_lt_of_le hMl hBc.size
      clear hrow hrow6 hBn hBb hBw6 hLB hKc hfar hszc m0b hCB HG hbW'
      have hPc := hP.below hBc
      obtain ⟨Wd, hWd⟩ : ∃ Wd, Wd = Wc := ⟨_, rfl⟩
      go_cut [16, 39] from 39 to 105 (fun s i wd => i = .int .i64 l ∧ Below Wc.heap.size Wc wd ∧ Mems wd s (p + 1) c.width (fun t => if t = p then kNew c l p X else kf t l) (fun t => if t = p then vNew c l X else vf t l))
      case first =>
        go_region_held3 (fun w' => w'.cell? ⟨W1.heap.size, l * 2, none⟩ = some (.slice ak c.width ck) ∧ w'.cell? ⟨W1.heap.size, l * 2 + 1, none⟩ = some (.slice av c.width cv))
          (go_keep)
          (first
            | (go_at_call 83; refine (oflayer_any p c.layers c.width l _ kf vf _ (by exact hPc.below (by first | exact (Below.refl _ _).drew | exact ((Below.refl _ _).alloc (Nat.le_refl _) _).drew)) hlt (by omega) (by omega)).mono ?_; rintro e u8 ⟨F, rfl, hownF, hFk, hFv, hb⟩; have hBc8 : Below Wc.heap.size Wc u8 := (by first | exact ((Below.refl _ _).drew).trans (hb.mono (by simp)) | exact (((Below.refl _ _).alloc (Nat.le_refl _) _).drew).trans (hb.mono (by simp))); have s1 := (hBc8.cell (p := ⟨W1.heap.size, l * 2, none⟩) hCBl).trans r1; have s2 := (hBc8.cell (p := ⟨W1.heap.size, l * 2 + 1, none⟩) hCBl).trans r2)
            | ((refine step_append_lies _ (by rfl) _ _ _ (by rfl) Wc.heap.size 147 i0 _ 2 48 Try.underlying124 hi hz0 hz1 hz2 rfl (by omega) (.slice (some ⟨Wc.heap.size, 0, none⟩) p p) p _ (by rfl) (World.ownsRow.alloc hownF _) ⟨u8.heap.size, 0, none⟩ 1 1 [.slice ak c.width ck, .slice av c.width cv] (by rfl) (by rfl) (World.news_of_block (cs := #[.slice ak c.width ck, .slice av c.width cv]) (t := 147) (fr := (0, 0)) (heap_alloc_new u8 _)) (by simp [Value.oneCell']) (by omega) (by unfold maxLen; omega) (by omega) (by have := hb.size; simp at this ⊢; omega) (u8.heap.size + 1) (by simp) ?_); intro gg cap u9' hown9 hgrow hat hlt9; have hBc9 : Below Wc.heap.size Wc u9' := (hBc8.alloc hBc8.size _).grown hgrow (by have := hBc8.size; simp; omega) (fun g hg => by simp [Value.ownBlock] at hg; omega); have z1 := (hBc9.cell (p := ⟨W1.heap.size, l * 2, none⟩) hCBl).trans r1; have z2 := (hBc9.cell (p := ⟨W1.heap.size, l * 2 + 1, none⟩) hCBl).trans r2; have hkg := KeepT.of_grown (e := 3) (World.ownsRow.alloc hownF _) hgrow (by decide); have hkt := ((KeepT.of_below hBc8).trans (KeepT.alloc _ _)).trans hkg; have hkF := ((KeepT.of_below (e := 3) hb).trans (KeepT.alloc _ _)).trans hkg)
            | ((refine step_append_lies _ (by rfl) _ _ _ (by rfl) (Wc.heap.size + 1) 147 i0 _ 2 48 Try.underlying124 hi hz0 hz1 hz2 rfl (by omega) (.slice (some ⟨Wc.heap.size + 1, 0, none⟩) p p) p _ (by rfl) (by simpa using hownF) ⟨Wc.heap.size, 0, none⟩ 1 1 [.slice ak c.width ck, .slice av c.width cv] (by rfl) (by rfl) (World.news_of_block (cs := #[.slice ak c.width ck, .slice av c.width cv]) (t := 147) (fr := (0, 0)) ((hb.block _ (by simp)).trans (heap_alloc_new Wc _))) (by simp [Value.oneCell']) (by omega) (by unfold maxLen; omega) (by omega) (by have := hb.size; simp at this ⊢; omega) u8.heap.size rfl ?_); intro gg cap u9' hown9 hgrow hat hlt9; have hBc9 : Below Wc.heap.size Wc u9' := hBc8.grown hgrow hBc8.size (fun g hg => by simp [Value.ownBlock] at hg; omega); have z1 := (hBc9.cell (p := ⟨W1.heap.size, l * 2, none⟩) hCBl).trans r1; have z2 := (hBc9.cell (p := ⟨W1.heap.size, l * 2 + 1, none⟩) hCBl).trans r2; have hkg := KeepT.of_grown (e := 3) (base := Wc.heap.size + 1) (e' := 147) (size := 2) (n := p) (v := .slice (some ⟨Wc.heap.size + 1, 0, none⟩) p p) (xs := (List.range (p * 2)).map F) (by simpa using hownF) hgrow (by decide); have hkt := (KeepT.of_below hBc8).trans hkg; have hkF := (KeepT.of_below (e := 3) hb).trans hkg))
        all_goals go_wp2_with fail
        all_goals go_meet
        all_goals exact ⟨rfl, hBc9, mems_push hown9 (fun t ht => (hFk t ht).keep hkF) (fun t ht => (hFv t ht).keep hkF) (hkk.keep hkt) (hvv.keep hkt)⟩
      case rest =>
        obtain ⟨rfl, hBn, hseen⟩ := hcut
        replace hx := hx.keep (KeepT.of_below hBn)
        replace hq := hq.keep (KeepT.of_below hBn)
        have hbk : ∀ t j, -4095 ≤ (if t = p then kNew c l p X else kf t l) j ∧ (if t = p then kNew c l p X else kf t l) j ≤ 4095 := fun t j => by
          split
          · exact kNew_bd _ _ _ _ _
          · exact bk _ _ _
        have hbv : ∀ t j, -4095 ≤ (if t = p then vNew c l X else vf t l) j ∧ (if t = p then vNew c l X else vf t l) j ≤ 4095 := fun t j => by
          split
          · exact vNew_bd _ _ _ _
          · exact bv _ _ _
        go_wp2_with fail
        go_region_held3 (fun w' => w'.cell? ⟨LB, 3, none⟩ = some (.slice a3 c.width k3))
          (exact (hBn.cell (p := ⟨LB, 3, none⟩) hLBl).trans b3)
          (first
            | (go_at_call 85; refine (dattend_any c hc M (p + 1) _ _ (qNew c l p X) (fun t => if t = p then kNew c l p X else kf t l) (fun t => if t = p then vNew c l X else vf t l) _ (by exact Nat.lt_of_lt_of_le hMW hBn.size) (by exact (hBn.cell (p := ⟨M, 0, none⟩) hMW).trans m0c) (by exact hq) (by exact hseen) (by omega) (by omega) (qNew_bd _ _ _ _) hbk hbv).mono ?_; rintro e x1 ⟨att, rfl, hatt, hbA⟩; replace hbA := below_of_drewN (k := 1) hbA; replace hBn := hBn.trans (hbA.mono hBn.size))
            | (go_at_call 82; refine (dtimes_W c _ (c.from l + 3 * c.ww) c.width c.width _ att _ (hL.below (hBc.trans (hBn.mono hBc.size))).o hatt (by omega) (by omega) (attOf_bd c p _ _ _ hbv)).mono ?_; rintro e x2 ⟨oo, rfl, hoo, hbB⟩; replace hBn := hBn.trans (hbB.mono hBn.size))
            | (go_at_call 84; refine (dplus_any c.width _ _ X _ _ ((hx.keep (KeepT.of_below hbA)).keep (KeepT.of_below hbB)) hoo (by omega) hxb (mulAt_bd _ _ _ _)).mono ?_; rintro e x3 ⟨xm, rfl, hxm, hbC⟩; replace hBn := hBn.trans (hbC.mono hBn.size)))
        have exm : plusOf X (mulAt c.weight (c.from l + 3 * c.ww) c.width (attOf c (p + 1 - 1) (qNew c l p X) (fun t => if t = p then kNew c l p X else kf t l) (fun t => if t = p then vNew c l X else vf t l))) = xMid c l X (attOf c p (qNew c l p X) (fun t => if t = p then kNew c l p X else kf t l) (fun t => if t = p then vNew c l X else vf t l)) := rfl
        rw [exm] at hxm
        have hxmb : ∀ j, -4095 ≤ xMid c l X (attOf c p (qNew c l p X) (fun t => if t = p then kNew c l p X else kf t l) (fun t => if t = p then vNew c l X else vf t l)) j ∧ xMid c l X (attOf c p (qNew c l p X) (fun t => if t = p then kNew c l p X else kf t l) (fun t => if t = p then vNew c l X else vf t l)) j ≤ 4095 := fun j => plusOf_bd _ _ _
        unfold xNext at HXS
        generalize xMid c l X (attOf c p (qNew c l p X) (fun t => if t = p then kNew c l p X else kf t l) (fun t => if t = p then vNew c l X else vf t l)) = XM at hxm hxmb HXS
        clear hatt hoo hbA hbB hbC exm hq hseen hx hbk hbv
        go_wp2_with fail
        go_region_held3 (fun w' => w'.cell? ⟨LB, 4, none⟩ = some (.slice a4 (2 * c.width) k4))
          (exact (hBn.cell (p := ⟨LB, 4, none⟩) hLBl).trans b4)
          (first
            | (go_at_call 80; refine (dnorm_any c.width _ XM _ (by exact hxm) (by omega) (by omega) hxmb).mono ?_; rintro e x4 ⟨ym, rfl, hym, hbA⟩; replace hbA := below_of_drewN (k := 1) hbA; replace hBn := hBn.trans (hbA.mono hBn.size))
            | (go_at_call 82; refine (dtimes_W c _ (c.from l + 4 * c.ww) (2 * c.width) c.width _ ym _ (hL.below (hBc.trans (hBn.mono hBc.size))).up hym (by omega) (by omega) (normOf_bd _ _)).mono ?_; rintro e x5 ⟨uu, rfl, huu, hbB⟩; replace hBn := hBn.trans (hbB.mono hBn.size))
            | (go_at_call 86; refine (nbz_any (2 * c.width) _ _ _ huu (by omega)).mono ?_; rintro e x6 ⟨zz, rfl, hzz, hbC⟩; replace hBn := hBn.trans (hbC.mono hBn.size)))
        replace hxm := ((hxm.keep (KeepT.of_below hbA)).keep (KeepT.of_below hbB)).keep (KeepT.of_below hbC)
        clear hym huu hbA hbB hbC
        have b5' := (hBn.cell (p := ⟨LB, 5, none⟩) hLBl).trans b5
        go_wp2_with fail
        refine (dtimes_W c _ (c.from l + 6 * c.ww) c.width (2 * c.width) _ zz (zOf c l XM) (hL.below (hBc.trans (hBn.mono hBc.size))).down hzz (by omega) (by omega) (zOf_bd _ _ _)).mono ?_
        rintro e x7 ⟨dd, rfl, hdd, hbA⟩
        replace hBn := hBn.trans (hbA.mono hBn.size)
        replace hxm := hxm.keep (KeepT.of_below hbA)
        go_wp2_with fail
        refine (dplus_any c.width _ _ XM _ _ hxm hdd (by omega) hxmb (mulAt_bd _ _ _ _)).mono ?_
        rintro e x8 ⟨xn, rfl, hxn, hbB⟩
        replace hBn := hBn.trans (hbB.mono hBn.size)
        clear b5' hdd hxm hzz hbA hbB
        go_wp2_with fail
        go_roundw
        case rel =>
          refine ⟨l + 1, fun t => if t = l then (.slice ak c.width ck, .slice av c.width cv) else G t, by omega, by go_num, ?_, hrowc.of_block (hBn.block _ hCBl), fun t ht => ?_, fun t ht => ?_, hBc.trans (hBn.mono hBc.size)⟩
          · rw [HXS.out]; exact hxn
          · by_cases e : t = l
            · subst e
              simp only [if_true]
              rw [HXe.out]
              exact ⟨hkk.keep (KeepT.of_below hBn), hvv.keep (KeepT.of_below hBn)⟩
            · simp only [if_neg e]
              exact ⟨(HGc.out t (by omega)).1.keep (KeepT.of_below hBn), (HGc.out t (by omega)).2.keep (KeepT.of_below hBn)⟩
          · by_cases e : t = l
            · subst e
              simp only [if_true]
              exact ⟨Hok.out, Hov.out⟩
            · simp only [if_neg e]
              exact HGo.out t (by omega)
        case measure => simp [intOf]; omega
    · have hlL : c.layers = l := by omega
      rw [← hlL] at hx hrow HG HGo ⊢
      go_wp2
      go_ret2
      refine ⟨_, _, rfl, hx, ?_, hbel⟩
      obtain ⟨arr, h1, h2, h3⟩ := hrow
      refine ⟨W1.heap.size, c.layers, arr, (0, 0), rfl, Nat.le_refl _, by unfold maxLen; omega, h1, fun t ht => ?_⟩
      refine ⟨(G t).1, (G t).2, ?_, ?_, (HG.out t ht).1, (HG.out t ht).2, (HGo.out t ht).1, (HGo.out t ht).2⟩
      · rw [h3 (t * 2) (by omega)]
        unfold paired
        rw [if_pos (by omega), if_pos (by omega), show t * 2 / 2 = t by omega]
      · rw [h3 (t * 2 + 1) (by omega)]
        unfold paired
        rw [if_pos (by omega), if_neg (by omega), show (t * 2 + 1) / 2 = t by omega]

end Go.Proofs.Ytaidjhlijadmiaa
