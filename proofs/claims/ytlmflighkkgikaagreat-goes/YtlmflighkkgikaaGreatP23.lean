import Derived.Test.YtlmflighkkgikaaGreatP13
import Derived.Test.YtlmflighkkgikaaGreatP17

namespace Go.Proofs.YtlmflighkkgikaaGreat
open Go.RowKit
attribute [local go_sem ↓] Go.wp_at_zero Go.wp_at_succ
theorem Tryz.info_intss : (Tryz.prog.info? 62).map (fun i => (i.zero, i.size, i.bytes)) = some (some (.slice none 0 0), 1, 24) := by kernel_rfl
theorem seen_none {w w' : World} {s bK bV L m : Nat} (hs : w'.heap[s]? = some (.cells #[.slice (some ⟨bK, 0, none⟩) L L, .slice (some ⟨bV, 0, none⟩) L L, .slice none 0 0] 110 (0, 0)))
   (hK : w'.heap[bK]? = some (.cells (madeCells #[.slice none 0 0] L) 62 (0, 0))) (hV : w'.heap[bV]? = some (.cells (madeCells #[.slice none 0 0] L) 62 (0, 0))) (h1 : w.heap.size ≤ s) (h2 : w.heap.size ≤ bK) (h3 : w.heap.size ≤ bV) (hne : bK ≠ bV) (f : Nat → Nat → Nat → Int) :
   SeenI w.heap.size w' s bK bV L m (.slice none 0 0) (fun _ => .slice none 0 0) (fun _ => 0) (fun _ _ => undef) f := by
 have hc : (madeCells #[Value.slice none 0 0] L).size = L ∧ ∀ l, l < L → (madeCells #[Value.slice none 0 0] L)[l]? = some (.slice none 0 0) := by
   have := World.rowIs_made w (.slice none 0 0) L 0
   obtain ⟨c, e, hz, hq⟩ := this
   rw [alloc_new] at e
   injection e with e
   injection e with e _ _
   rw [e]; exact ⟨hz, hq⟩
 obtain ⟨hsz, hc⟩ := hc
 exact ⟨hs, ⟨_, hK, hsz, hc⟩, ⟨_, hV, hsz, hc⟩, h1, h2, h3, hne, fun r _ => World.ownsRow_nil _ _ _ _, fun r _ t ht => absurd ht (by omega), fun r r' _ _ _ g hg => by simp [Value.ownBlock] at hg⟩
theorem alloc_three (w : World) (a b c : Obj) : (((w.alloc a).alloc b).alloc c).heap[w.heap.size]? = some a ∧ (((w.alloc a).alloc b).alloc c).heap[w.heap.size + 1]? = some b ∧ (((w.alloc a).alloc b).alloc c).heap[w.heap.size + 1 + 1]? = some c := by
 refine ⟨?_, ?_, ?_⟩
 · rw [alloc_old _ _ _ (by simp; omega), alloc_old _ _ _ (by simp), alloc_new]
 · have := alloc_new (w.alloc a) b
   rw [alloc_old _ _ _ (by simp)]; simpa using this
 · have := alloc_new ((w.alloc a).alloc b) c
   simpa using this
theorem row_step (c : Cfg) (tk : Nat → Nat) (p l : Nat) : (fun r t => if r = 2 * l ∧ t = p then kNew c l p (xIn c tk p l) else if r = 2 * l + 1 ∧ t = p then vNew c l (xIn c tk p l) else rowOf c tk r t) = rowOf c tk := by
 funext r t
 by_cases h1 : r = 2 * l ∧ t = p
 · obtain ⟨rfl, rfl⟩ := h1
   rw [if_pos ⟨rfl, rfl⟩]; unfold rowOf; rw [if_pos (by omega), show 2 * l / 2 = l by omega]; rfl
 · rw [if_neg h1]
   by_cases h2 : r = 2 * l + 1 ∧ t = p
   · obtain ⟨rfl, rfl⟩ := h2
     rw [if_pos ⟨rfl, rfl⟩]; unfold rowOf; rw [if_neg (by omega), show (2 * l + 1) / 2 = l by omega]; rfl
   · rw [if_neg h2]
theorem x_step (c : Cfg) (tk : Nat → Nat) (p l : Nat) : xNext c l p (xIn c tk p l) (fun t => if t = p then kNew c l p (xIn c tk p l) else rowOf c tk (2 * l) t) (fun t => if t = p then vNew c l (xIn c tk p l) else rowOf c tk (2 * l + 1) t) = xIn c tk p (l + 1) := by
 rw [xIn_succ]
 refine xNext_congr c l p _ (fun t _ => ?_) (fun t _ => ?_)
 · by_cases e : t = p
   · subst e; rw [if_pos rfl]; rfl
   · rw [if_neg e]; unfold rowOf; rw [if_pos (by omega), show 2 * l / 2 = l by omega]
 · by_cases e : t = p
   · subst e; rw [if_pos rfl]; rfl
   · rw [if_neg e]; unfold rowOf; rw [if_neg (by omega), show (2 * l + 1) / 2 = l by omega]
theorem ints_cells {w : World} {a : Option Addr} {n c : Nat} {g : Nat → Int} (h : IntsT w (.slice a n c) n g) (h0 : 0 < n) : ∃ b off, a = some ⟨b, off, none⟩ ∧ b < w.heap.size ∧ ∀ j, j < n → w.cell? ⟨b, off + j, none⟩ = some (.int .i64 (g j)) := by
 obtain ⟨a', c', e, _, _, h3⟩ := h.ints
 injection e with e1 _ _
 subst e1
 exact h3 h0
def cntOf (p l r : Nat) : Nat := if r < 2 * l then p + 1 else p
set_option maxRecDepth 100000 in
set_option maxHeartbeats 4000000 in
theorem refthrough_any (c : Cfg) (hc : c.ok) (d n : Nat) (vt : Value) (tk : Nat → Nat) (w : World) (hd : RefDec w d c) (ht : IntsT w vt n (fun j => (tk j : Int))) (htk : ∀ j, j < n → tk j < c.vocab) (hn : n ≤ 100) :
   Calls Tryz.prog 54 #[.pointer (some ⟨d, 0, none⟩), vt] w fun e w' =>
     ∃ s bK bV vX rv xs, e = .returned (.pointer (some ⟨s, 0, none⟩)) ∧ SeenI w.heap.size w' s bK bV c.layers c.width vX rv (fun _ => n) xs (rowOf c tk) ∧ (0 < n → IntsT w' vX c.width (xIn c tk (n - 1) c.layers)) ∧ Below w.heap.size w w' := by
 obtain ⟨i0, hi, hz0, hz1, hz2⟩ := info_parts Tryz.info_int
 obtain ⟨i1, hi', hz0', hz1', hz2'⟩ := info_parts Tryz.info_intss
 obtain ⟨w1, w2⟩ := c.width_bd hc
 obtain ⟨e1, e2⟩ := hc.layers
 obtain ⟨d1, d2⟩ := hc.vocab
 have hmany := c.many_bd hc
 obtain ⟨vW, g7, gW, g2, g3, g4, g5, g8⟩ := hd.cells
 have hdl := hd.lt
 obtain ⟨at', ct, rfl, ht1, ht2, ht3⟩ := id ht
 have hmk := fun w => run_make (P := Tryz.prog) w 33 62 i1 _ Tryz.underlying33 hi' hz0' .i64 .i64 c.layers c.layers (by omega) (Int.le_refl _) (by rw [hz2']; omega) (by omega)
 rw [hz1'] at hmk
 go_enter Tryz.func54, Tryz.ntmps54
 go_wp2_with fail
 go_cut [5] from 10 (fun s5 wc => ∃ s bK bV, s5 = .pointer (some ⟨s, 0, none⟩) ∧ SeenI w.heap.size wc s bK bV c.layers c.width (.slice none 0 0) (fun _ => .slice none 0 0) (fun _ => 0) (fun _ _ => undef) (rowOf c tk) ∧ Below w.heap.size w wc)
 case first =>
   go_wp2_with fail
   go_region
   all_goals go_wp2_with fail
   all_goals go_meet
   all_goals have hdz : w.drew.heap.size = w.heap.size := rfl
   · obtain ⟨q0, q1, q2⟩ := alloc_three w.drew (.cells (madeCells #[.slice none 0 0] c.layers) 62) (.cells (madeCells #[.slice none 0 0] c.layers) 62) (.cells #[.slice (some ⟨w.heap.size, 0, none⟩) c.layers c.layers, .slice (some ⟨w.heap.size + 1, 0, none⟩) c.layers c.layers, .slice none 0 0] 110)
     exact ⟨_, _, _, rfl, seen_none q2 q0 q1 (by omega) (by omega) (by omega) (by omega) _, ((((Below.refl _ _).drew).alloc (by simp) _).alloc (by simp) _).alloc (by simp; omega) _⟩
   · obtain ⟨q0, q1, q2⟩ := alloc_three w.drew (.cells (madeCells #[.slice none 0 0] c.layers) 62) (.cells (madeCells #[.slice none 0 0] c.layers) 62) (.cells #[.slice (some ⟨w.heap.size + 1, 0, none⟩) c.layers c.layers, .slice (some ⟨w.heap.size, 0, none⟩) c.layers c.layers, .slice none 0 0] 110)
     exact ⟨_, _, _, rfl, seen_none q2 q1 q0 (by omega) (by omega) (by omega) (by omega) _, ((((Below.refl _ _).drew).alloc (by simp) _).alloc (by simp) _).alloc (by simp; omega) _⟩
 case rest =>
   obtain ⟨s, bK, bV, rfl, hs0, hB0⟩ := hcut
   obtain ⟨aW, cW, rfl, hW1, hW2, hW3⟩ := gW
   clear hmk g3 g4 g5
   have HW := hide hW3
   have Ht3 := hide ht3
   clear hW3 ht3
   go_wp2
   go_loopw [6] (fun i wr => ∃ (p : Nat) (vX : Value) (rv : Nat → Value) (xs : Nat → Nat → Value), p ≤ n ∧ i = .int .i64 p ∧ SeenI w.heap.size wr s bK bV c.layers c.width vX rv (fun _ => p) xs (rowOf c tk) ∧ (0 < p → IntsT wr vX c.width (xIn c tk (p - 1) c.layers)) ∧ Below w.heap.size w wr) (fun i _ => n - (intOf i).toNat)
   case atStart => exact ⟨0, _, _, _, by omega, rfl, hs0, fun h => absurd h (by omega), hB0⟩
   case round =>
     clear hs0 hB0
     obtain ⟨p, vX, rv, xs, hp, rfl, hs, hX, hB⟩ := hrel
     by_cases hlt : p < n
     · obtain ⟨bt, ot, ea, hbt, hct⟩ := ints_cells ht (by omega)
       obtain ⟨bW, oW, ew, hbW, hcW⟩ := HW.out (by unfold Cfg.many; have : 0 < 2 * c.vocab * c.width := Nat.mul_pos (by omega) (by omega); omega)
       have htok := htk p hlt
       have ctok := hct p hlt
       have hrow : ∀ k, k < c.width → tk p * c.width + k < c.many := fun k hk => by
         have h1 : (tk p + 1) * c.width ≤ c.vocab * c.width := Nat.mul_le_mul_right _ htok
         have h2 : c.vocab * c.width ≤ 2 * c.vocab * c.width := Nat.mul_le_mul_right _ (by omega)
         rw [Nat.add_mul] at h1
         unfold Cfg.many; omega
       have Hrow := hide hrow
       have HcW := hide hcW
       clear hrow hcW hct
       have p7 := (hB.cell (p := ⟨d, 7, none⟩) hdl).trans g7
       have p8 := (hB.cell (p := ⟨d, 8, none⟩) hdl).trans g8
       have p2 := (hB.cell (p := ⟨d, 2, none⟩) hdl).trans g2
       have ptok := (hB.cell (p := ⟨bt, ot + p, none⟩) hbt).trans ctok
       have hszB := hB.size
       have l1 : d < wr.heap.size := by omega
       have l2 : bt < wr.heap.size := by omega
       have l3 : bW < wr.heap.size := by omega
       subst ea
       subst ew
       obtain ⟨W1, rfl⟩ : ∃ W1, W1 = wr := ⟨_, rfl⟩
       go_wp2
       go_loopw [7, 8] (fun o i wr => ∃ k : Nat, k ≤ c.width ∧ i = .int .i64 k ∧ wr.ownsRow W1.heap.size 3 1 o k ((List.range k).map fun i => .int .i64 (xIn c tk p 0 i)) ∧ Below W1.heap.size W1 wr) (fun _ i _ => c.width - (intOf i).toNat)
       case atStart => exact ⟨0, Nat.zero_le _, rfl, World.ownsRow_nil _ _ _ _, Below.refl _ _⟩
       case round =>
         obtain ⟨k, hk, rfl, hown, hbel⟩ := hrel
         have hsz := hbel.size
         have r8 := (hbel.cell (p := ⟨d, 8, none⟩) l1).trans p8
         by_cases hk2 : k < c.width
         · obtain ⟨q, hq⟩ : ∃ q : Nat, q = tk p * c.width + k := ⟨_, rfl⟩
           have hqm : q < c.many := by rw [hq]; exact Hrow.out k hk2
           have r7 := (hbel.cell (p := ⟨d, 7, none⟩) l1).trans p7
           have rtok := (hbel.cell (p := ⟨bt, ot + p, none⟩) l2).trans ptok
           have rw0 := (hbel.cell (p := ⟨bW, oW + q, none⟩) l3).trans ((hB.cell (p := ⟨bW, oW + q, none⟩) hbW).trans (HcW.out q hqm))
           have hx0 : xIn c tk p 0 k = cutI (64 * c.weight q) := by rw [hq]; rfl
           have hm0 : (0 : Int) ≤ (tk p : Int) * c.width := Int.mul_nonneg (by omega) (by omega)
           have hq' : (tk p : Int) * c.width + k = q := by rw [hq]; simp
           have hqb : (q : Int) < 2000 := by omega
           have hwr1 : IntKind.i64.wrap ((tk p : Int) * c.width) = (tk p : Int) * c.width := wrap_in (by omega) (by omega)
           have hwr2 : IntKind.i64.wrap ((tk p : Int) * c.width + k) = q := by rw [hq']; exact wrap_in (by omega) (by omega)
           have hwb : -8 ≤ c.weight q ∧ c.weight q ≤ 8 := weightI_bd _ _
           generalize c.weight q = wt at hwb hx0 rw0
           have hwr3 : IntKind.i64.wrap (64 * wt) = 64 * wt := wrap_in (by omega) (by omega)
           have Hx0 := hide hx0
           have i1 : (0 : Int) ≤ (p : Int) := by omega
           have i2 : (p : Int) < (n : Int) := by omega
           have i3 : (0 : Int) ≤ (q : Int) := by omega
           have i4 : (q : Int) < (c.many : Int) := by omega
           have hne : ∀ g, g < W1.heap.size → some g ≠ u7.ownBlock := fun g hg h => by have := (hown.lt g h.symm).1; omega
           clear hx0 hq hq' hwb
           go_wp2
           go_region_held3 (fun w' => w'.cell? ⟨d, 7, none⟩ = some (.slice (some ⟨bW, oW, none⟩) c.many cW) ∧ w'.cell? ⟨d, 8, none⟩ = some (.int .i64 c.width) ∧ w'.cell? ⟨bt, ot + p, none⟩ = some (.int .i64 (tk p)) ∧ w'.cell? ⟨bW, oW + q, none⟩ = some (.int .i64 (wt)))
             (first
               | go_keep
               | (exact ⟨hgrow.cell ((World.cell?_alloc_past _ _ _ (by omega)).trans r7) (hne _ l1), hgrow.cell ((World.cell?_alloc_past _ _ _ (by omega)).trans r8) (hne _ l1), hgrow.cell ((World.cell?_alloc_past _ _ _ (by omega)).trans rtok) (hne _ l2), hgrow.cell ((World.cell?_alloc_past _ _ _ (by omega)).trans rw0) (hne _ l3)⟩))
             (first
               | (go_at_call 81; refine Calls_use (refcut_any _ _) ?_)
               | ((refine step_append_lies _ (by rfl) _ _ _ (by rfl) W1.heap.size 3 i0 _ 1 8 Tryz.underlying36 hi hz0 hz1 hz2 rfl (by omega) u7 k _ (by rfl) ((hown.alloc _).drew) ⟨wr.heap.size, 0, none⟩ 1 1 [.int .i64 (cutI (64 * wt))] (by rfl) (by rfl) (one_new wr _ _) (one_int _) (by omega) (by unfold maxLen; omega) (by omega) (by simp; omega) (wr.heap.size + 1) (by simp) ?_); intro gg cap w3 hown1 hgrow hat hlt3))
           have hbel' : Below W1.heap.size W1 w3 := ((hbel.alloc hsz _).drew).grown hgrow (by simp; omega) (fun g hg => (hown.lt g hg).1)
           rw [← Hx0.out, ← range_map_succ (fun i => Value.int .i64 (xIn c tk p 0 i))] at hown1
           clear hown hgrow hne
           go_wp2
           go_roundw
           case rel => exact ⟨k + 1, by omega, by go_num, hown1, hbel'⟩
           case measure => simp [intOf]; omega
         · have hke : k = c.width := by omega
           subst hke
           have hx := IntsT.of_owns hown
           have hB2 := hB.trans (hbel.mono hszB)
           have hs2 := hs.below hbel
           obtain ⟨W2, rfl⟩ : ∃ W2, W2 = wr := ⟨_, rfl⟩
           clear hown hs p2 p7 p8 ptok hX
           go_wp2
           go_loopw [7, 9] (fun x i wr => ∃ (l : Nat) (rv : Nat → Value) (xs : Nat → Nat → Value), l ≤ c.layers ∧ i = .int .i64 l ∧ IntsT wr x c.width (xIn c tk p l) ∧ SeenI w.heap.size wr s bK bV c.layers c.width vX rv (cntOf p l) xs (rowOf c tk) ∧ Below w.heap.size w wr) (fun _ i _ => c.layers - (intOf i).toNat)
           case atStart => exact ⟨0, _, _, by omega, rfl, hx, hs2.congr (fun r _ => by unfold cntOf; simp) (fun _ _ _ _ => rfl), hB2⟩
           case round =>
             clear hx hs2 hB2 hbel hsz r8
             obtain ⟨l, rv2, xs2, hl, rfl, hx, hs, hB2⟩ := hrel
             have p2 := (hB2.cell (p := ⟨d, 2, none⟩) hdl).trans g2
             by_cases hl2 : l < c.layers
             · have hcall := reflayer_any c hc w wr d s bK bV p l u7 vX (xIn c tk p l) rv2 (cntOf p l) xs2 (rowOf c tk) hd hB2 hs hl2 (by unfold cntOf; rw [if_neg (by omega)]) (by unfold cntOf; rw [if_neg (by omega)]) hx (xIn_bd _ _ _ _) (rowOf_bd _ _) (by omega)
               rw [row_step, x_step] at hcall
               have Hcall := hide hcall
               clear hcall
               go_wp2_with fail
               refine Hcall.out.mono ?_
               rintro e W4 ⟨r, rv3, xs3, rfl, hB4, hs4, hr⟩
               clear Hcall
               go_wp2
               go_roundw
               case rel =>
                 refine ⟨l + 1, rv3, xs3, by omega, by go_num, hr, hs4.congr (fun r _ => ?_) (fun _ _ _ _ => rfl), hB4⟩
                 unfold cntOf
                 by_cases h1 : r = 2 * l ∨ r = 2 * l + 1
                 · rw [if_pos h1, if_pos (by omega)]
                 · rw [if_neg h1]
                   by_cases h2 : r < 2 * l
                   · rw [if_pos h2, if_pos (by omega)]
                   · rw [if_neg h2, if_neg (by omega)]
               case measure => simp [intOf]; omega
             · have hle : l = c.layers := by omega
               subst hle
               obtain ⟨ax, cx, ex, _⟩ := id hx
               subst ex
               obtain ⟨q1, q2⟩ := hs.setX (.slice ax c.width cx)
               have f2 := frozen_blk hs.seen 2
               have c2 : wr.cell? ⟨s, 2, none⟩ = some vX := by rw [cell_blk hs.seen]; rfl
               have hsb := hs.bs
               have hsl := lt_blk hs.seen
               go_wp2
               go_roundw
               case rel => exact ⟨p + 1, _, _, _, by omega, by go_num, q1.congr (fun r hr => by unfold cntOf; rw [if_pos (by omega)]) (fun _ _ _ _ => rfl), fun _ => hx.keep q2, hB2.setCell hsb _⟩
               case measure => simp [intOf]; omega
     · have hpn : p = n := by omega
       subst hpn
       go_wp2
       go_ret
       exact ⟨s, bK, bV, vX, rv, xs, rfl, hs, hX, hB⟩
end Go.Proofs.YtlmflighkkgikaaGreat
