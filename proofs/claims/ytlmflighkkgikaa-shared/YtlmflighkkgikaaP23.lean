import Derived.Deep.CutRange
import Derived.Test.YtlmflighkkgikaaP02
import Derived.Test.YtlmflighkkgikaaP20

namespace Go.Proofs.Ytlmflighkkgikaa
open Go.RowKit
attribute [local go_sem ↓] Go.wp_at_zero Go.wp_at_succ
def RowT (w : World) (e : TypeId) (v : Value) (n : Nat) (f : Nat → Value) : Prop :=
 ∃ b cap cur, v = .slice (some ⟨b, 0, none⟩) n cap ∧ n ≤ cap ∧ cap ≤ maxLen ∧ w.heap[b]? = some (.cells cur e (0, 0)) ∧ ∀ j, j < n → cur[j]? = some (f j)
theorem RowT.row {w : World} {e : TypeId} {v : Value} {n : Nat} {f : Nat → Value} (h : RowT w e v n f) : Row w v n f := by
 obtain ⟨b, cap, cur, rfl, h1, h2, h3, h4⟩ := h
 exact ⟨_, cap, rfl, h1, h2, fun _ => ⟨b, 0, rfl, lt_blk h3, fun j hj => by rw [cell_blk h3, Nat.zero_add]; exact h4 j hj⟩⟩
theorem RowT.keep {w w' : World} {e : TypeId} {v : Value} {n : Nat} {f : Nat → Value} (h : RowT w e v n f) (hk : KeepT e w w') : RowT w' e v n f := by
 obtain ⟨b, cap, cur, rfl, h1, h2, h3, h4⟩ := h
 exact ⟨b, cap, cur, rfl, h1, h2, hk _ _ _ h3, h4⟩
def MatWT (w : World) (v : Value) (s : Int) (start n m : Nat) : Prop := ∃ vs, RowT w 24 v n vs ∧ ∀ t, t < n → IntsT w (vs t) m (fun j => weightI s (start + t * m + j))
theorem MatWT.keep {w w' : World} {v : Value} {s : Int} {start n m : Nat} (h : MatWT w v s start n m) (h1 : KeepT 24 w w') (h2 : KeepT 3 w w') : MatWT w' v s start n m := by
 obtain ⟨vs, a, b⟩ := h
 exact ⟨vs, a.keep h1, fun t ht => (b t ht).keep h2⟩
theorem MatWT.mat {w : World} {v : Value} {c : Cfg} {start n m : Nat} (h : MatWT w v c.seedU start n m) : MatW w v c start n m := by
 obtain ⟨vs, a, b⟩ := h
 exact ⟨vs, a.row, b⟩
structure OnlyAt (D : Nat) (w w' : World) : Prop where
 os : w'.os = w.os
 tape : w'.tape = w.tape
 output : w'.output = w.output
 size : w.heap.size ≤ w'.heap.size
 block : ∀ k, k < w.heap.size → k ≠ D → w'.heap[k]? = w.heap[k]?
theorem OnlyAt.keep {D : Nat} {w w' : World} {e e' : TypeId} {cur : Array Value} {fr : Nat × Nat} (h : OnlyAt D w w') (hD : w.heap[D]? = some (.cells cur e' fr)) (hne : e ≠ e') : KeepT e w w' := by
 intro k c f hk
 by_cases hkD : k = D
 · subst hkD; rw [hD] at hk; injection hk with hk; injection hk with _ he _; exact absurd he.symm hne
 · rw [h.block k (lt_blk hk) hkD]; exact hk
theorem OnlyAt.below {D : Nat} {W w w' : World} (h : OnlyAt D w w') (hb : Below W.heap.size W w) (hD : W.heap.size ≤ D) : Below W.heap.size W w' :=
 hb.trans ⟨h.os, h.tape, h.output, h.size, fun k hk => h.block k (Nat.lt_of_lt_of_le hk hb.size) (by omega)⟩
theorem matrix_W (D rows m start : Nat) (s : Int) (w : World) (hD : DealI w D s start) (hs : 0 ≤ s ∧ s < 18446744073709551616) (hr : rows ≤ 100) (hm : m ≤ 100) (hst : start + rows * m ≤ 50000) :
   Calls Try.prog 65 #[.pointer (some ⟨D, 0, none⟩), .int .i64 rows, .int .i64 m] w fun e w' =>
     ∃ v, e = .returned v ∧ (MatWT w' v s start rows m ∧ (∃ a, v = .slice a rows rows) ∧ DealI w' D s (start + rows * m) ∧ OnlyAt D w w') := by
 refine (matrix_any D rows m start s w hD hs hr hm hst).mono ?_
 rintro e w' ⟨rfl, h1, h2, h3, h4, h5, h6, h7, h8⟩
 refine ⟨_, rfl, ⟨fun j => .slice (some ⟨w.heap.size + 1 + j, 0, none⟩) m m, ?_, fun t ht => ?_⟩, ⟨_, rfl⟩, h3, ⟨h6, h7, h8, by omega, h5⟩⟩
 · obtain ⟨c, a, _, d⟩ := h1
   exact ⟨_, rows, c, rfl, Nat.le_refl _, by unfold maxLen; omega, a, d⟩
 · exact fill_done ((h2 t ht).congr (fun j hj => by simp only [filled, if_pos hj])) (by unfold maxLen; omega)
structure LayerT (w : World) (c : Cfg) (l : Nat) (mv : Nat → Value) : Prop where
 q : MatWT w (mv 0) c.seedU (c.from l) c.width c.width
 k : MatWT w (mv 1) c.seedU (c.from l + c.ww) c.width c.width
 v : MatWT w (mv 2) c.seedU (c.from l + 2 * c.ww) c.width c.width
 o : MatWT w (mv 3) c.seedU (c.from l + 3 * c.ww) c.width c.width
 up : MatWT w (mv 4) c.seedU (c.from l + 4 * c.ww) (2 * c.width) c.width
 down : MatWT w (mv 5) c.seedU (c.from l + 6 * c.ww) c.width (2 * c.width)
theorem LayerT.keep {w w' : World} {c : Cfg} {l : Nat} {v : Nat → Value} (h : LayerT w c l v) (h1 : KeepT 24 w w') (h2 : KeepT 3 w w') : LayerT w' c l v :=
 ⟨h.q.keep h1 h2, h.k.keep h1 h2, h.v.keep h1 h2, h.o.keep h1 h2, h.up.keep h1 h2, h.down.keep h1 h2⟩
structure NewI (w wr : World) (c : Cfg) (M : Nat) (vE vH vL : Value) (F : Nat → Value) (l n : Nat) : Prop where
 cfg : wr.heap[w.heap.size]? = some (.cells #[.int .i64 c.blocks, .int .i64 c.slots, .int .i64 c.layers, .int .i64 c.heads, .int .i64 c.pairs, .int .i64 c.vocab, .int .i64 c.seed] 26 (0, 0))
 deal : DealI wr (w.heap.size + 1) c.seedU n
 obj : wr.heap[M]? = some (.cells #[.int .i64 c.pairs, vE, vH, vL] 111 (0, 0))
 emb : MatWT wr vE c.seedU 0 c.vocab c.width
 row : wr.ownsRow (M + 1) 126 6 vL l ((List.range (l * 6)).map F)
 mats : ∀ t, t < l → LayerT wr c t (fun f => F (t * 6 + f))
 bel : Below w.heap.size w wr
theorem NewI.step {w wr w' : World} {c : Cfg} {M n n' LB : Nat} {vE vH vL : Value} {F : Nat → Value} {l : Nat} (h : NewI w wr c M vE vH vL F l n) (hd : DealI w' (w.heap.size + 1) c.seedU n')
   (hk : ∀ k, k < wr.heap.size → k ≠ w.heap.size + 1 → k ≠ LB → w'.heap[k]? = wr.heap[k]?) (h36 : KeepT 24 wr w') (h3 : KeepT 3 wr w') (hb : Below w.heap.size w w')
   (hL1 : w.heap.size ≠ LB) (hL2 : M ≠ LB) (hL3 : vL.ownBlock ≠ some LB) : NewI w w' c M vE vH vL F l n' := by
 have hne : ∀ {k : Nat} {cur : Array Value} {e : TypeId} {fr : Nat × Nat}, wr.heap[k]? = some (Obj.cells cur e fr) → e ≠ 123 → k ≠ w.heap.size + 1 := fun {k cur e fr} hk' he e' => by
   subst e'
   have := h.deal
   unfold DealI at this
   rw [hk'] at this; injection this with this; injection this with _ h2 _; exact he h2
 refine ⟨?_, hd, ?_, h.emb.keep h36 h3, ?_, fun t ht => (h.mats t ht).keep h36 h3, hb⟩
 · rw [hk _ (lt_blk h.cfg) (hne h.cfg (by decide)) hL1]; exact h.cfg
 · rw [hk _ (lt_blk h.obj) (hne h.obj (by decide)) hL2]; exact h.obj
 · obtain ⟨q1, q2 | ⟨g, cap, cur, q2, q3, q4, q5⟩⟩ := h.row
   · exact ⟨q1, .inl q2⟩
   · refine ⟨q1, .inr ⟨g, cap, cur, q2, q3, ?_, q5⟩⟩
     rw [hk _ (lt_blk q4) (hne q4 (by decide)) (fun e => hL3 (by rw [q2, ← e]; rfl))]; exact q4
theorem lay_step {w u u' : World} {D LB n n' f : Nat} {s : Int} {arr : Array Value} (v : Value) (hd : DealI u D s n) (hL : u.heap[LB]? = some (.cells arr 126 (0, 0))) (hO : OnlyAt D u u') (hd' : DealI u' D s n') (hb : Below w.heap.size w u) (hD : w.heap.size ≤ D) (hLB : w.heap.size ≤ LB) :
   DealI (u'.setCell ⟨LB, f, none⟩ v) D s n' ∧ (u'.setCell ⟨LB, f, none⟩ v).heap[LB]? = some (.cells (arr.setIfInBounds f v) 126 (0, 0)) ∧ KeepT 24 u (u'.setCell ⟨LB, f, none⟩ v) ∧ KeepT 3 u (u'.setCell ⟨LB, f, none⟩ v) ∧
   (∀ k, k < u.heap.size → k ≠ D → k ≠ LB → (u'.setCell ⟨LB, f, none⟩ v).heap[k]? = u.heap[k]?) ∧ Below w.heap.size w (u'.setCell ⟨LB, f, none⟩ v) ∧ u.heap.size ≤ (u'.setCell ⟨LB, f, none⟩ v).heap.size ∧
   KeepT 24 u' (u'.setCell ⟨LB, f, none⟩ v) ∧ KeepT 3 u' (u'.setCell ⟨LB, f, none⟩ v) := by
 have hne : LB ≠ D := fun e => by
   subst e; unfold DealI at hd; rw [hL] at hd; injection hd with hd; injection hd with _ h2 _; exact absurd h2 (by decide)
 have hL' : u'.heap[LB]? = some (.cells arr 126 (0, 0)) := by rw [hO.block LB (lt_blk hL) hne]; exact hL
 refine ⟨?_, setCell_blk hL' f v, (hO.keep hd (by decide)).trans (KeepT.setCell hL' (by decide) _), (hO.keep hd (by decide)).trans (KeepT.setCell hL' (by decide) _), fun k hk h1 h2 => ?_, (hO.below hb hD).setCell hLB _, by simp [World.setCell]; exact hO.size, KeepT.setCell hL' (by decide) _, KeepT.setCell hL' (by decide) _⟩
 · unfold DealI; rw [setCell_far _ _ _ _ _ (fun e => hne e.symm)]; exact hd'
 · rw [setCell_far _ _ _ _ _ h2]; exact hO.block k hk h1
theorem Try.info_layer : (Try.prog.info? 126).map (fun i => (i.zero, i.size, i.bytes)) = some (some (.agg #[.slice none 0 0, .slice none 0 0, .slice none 0 0, .slice none 0 0, .slice none 0 0, .slice none 0 0]), 6, 144) := by kernel_rfl
theorem NewI.grow {w W u : World} {c : Cfg} {M n l g cap : Nat} {vE vH vL : Value} {F : Nat → Value} {o : Obj} {mv : Nat → Value} (h : NewI w W c M vE vH vL F l n) (hM : w.heap.size + 1 < M)
   (hown : u.ownsRow (M + 1) 126 6 (.slice (some ⟨g, 0, none⟩) (l + 1) cap) (l + 1) ((List.range (l * 6)).map F ++ [mv 0, mv 1, mv 2, mv 3, mv 4, mv 5])) (hgrow : (W.alloc o).drew.grownBy u vL.ownBlock) (hL : LayerT W c l mv) :
   NewI w (u.setCell ⟨M, 3, none⟩ (.slice (some ⟨g, 0, none⟩) (l + 1) cap)) c M vE vH (.slice (some ⟨g, 0, none⟩) (l + 1) cap) (fun j => if j < l * 6 then F j else mv (j - l * 6)) (l + 1) n := by
 have hsz : (W.alloc o).drew.heap.size = W.heap.size + 1 := by simp
 have hown0 : (W.alloc o).drew.ownsRow (M + 1) 126 6 vL l ((List.range (l * 6)).map F) := (h.row.alloc o).drew
 have other : ∀ (k : Nat) (cur : Array Value) (e : TypeId) (fr : Nat × Nat), W.heap[k]? = some (Obj.cells cur e fr) → e ≠ 126 → u.heap[k]? = some (Obj.cells cur e fr) := fun k cur e fr hk he => by
   have hk' : (W.alloc o).drew.heap[k]? = some (Obj.cells cur e fr) := (alloc_old W o k (lt_blk hk)).trans hk
   exact (KeepT.of_grown hown0 hgrow he) k cur fr hk'
 have kk : ∀ e : TypeId, e ≠ 126 → e ≠ 111 → KeepT e W (u.setCell ⟨M, 3, none⟩ (.slice (some ⟨g, 0, none⟩) (l + 1) cap)) := fun e h1 h2 k cur fr hk =>
   (KeepT.setCell (other _ _ _ _ h.obj (by decide)) h2 _) k cur fr (other k cur e fr hk h1)
 have hcfg := other _ _ _ _ h.cfg (by decide)
 have hobj := other _ _ _ _ h.obj (by decide)
 have hdl := other _ _ _ _ h.deal (by decide)
 have hcM : w.heap.size ≠ M := by omega
 refine ⟨by rw [setCell_far _ _ _ _ _ hcM]; exact hcfg, ?_, ?_, h.emb.keep (kk _ (by decide) (by decide)) (kk _ (by decide) (by decide)), ?_, fun t ht => ?_, ?_⟩
 · unfold DealI; rw [setCell_far _ _ _ _ _ (by omega)]; exact hdl
 · rw [setCell_blk hobj]; rfl
 · have e : (List.range (l * 6)).map F ++ [mv 0, mv 1, mv 2, mv 3, mv 4, mv 5] = (List.range ((l + 1) * 6)).map (fun j => if j < l * 6 then F j else mv (j - l * 6)) := by
     rw [show (l + 1) * 6 = l * 6 + 6 by omega, range_map_add]
     congr 1
     · apply List.map_congr_left
       intro j hj
       rw [if_pos (List.mem_range.1 hj)]
     · simp [List.range_succ]
       exact ⟨fun h => absurd h (by omega), fun h => absurd h (by omega), fun h => absurd h (by omega), fun h => absurd h (by omega), fun h => absurd h (by omega)⟩
   rw [e] at hown
   exact ownsRow_setCell_below hown (by show M < M + 1; omega) _
 · by_cases ht' : t = l
   · subst ht'
     have := hL.keep (kk 24 (by decide) (by decide)) (kk 3 (by decide) (by decide))
     have gl : ∀ f, (if t * 6 + f < t * 6 then F (t * 6 + f) else mv (t * 6 + f - t * 6)) = mv f := fun f => by
       rw [if_neg (by omega), Nat.add_sub_cancel_left]
     refine ⟨?_, ?_, ?_, ?_, ?_, ?_⟩
     · rw [gl 0]; exact this.q
     · rw [gl 1]; exact this.k
     · rw [gl 2]; exact this.v
     · rw [gl 3]; exact this.o
     · rw [gl 4]; exact this.up
     · rw [gl 5]; exact this.down
   · have := (h.mats t (by omega)).keep (kk 24 (by decide) (by decide)) (kk 3 (by decide) (by decide))
     have g : ∀ f, f < 6 → (if t * 6 + f < l * 6 then F (t * 6 + f) else mv (t * 6 + f - l * 6)) = F (t * 6 + f) := fun f hf => by
       rw [if_pos (by omega)]
     refine ⟨?_, ?_, ?_, ?_, ?_, ?_⟩
     · rw [g 0 (by omega)]; exact this.q
     · rw [g 1 (by omega)]; exact this.k
     · rw [g 2 (by omega)]; exact this.v
     · rw [g 3 (by omega)]; exact this.o
     · rw [g 4 (by omega)]; exact this.up
     · rw [g 5 (by omega)]; exact this.down
 · refine (((h.bel.alloc h.bel.size o).drew).grown hgrow (by rw [hsz]; have := h.bel.size; omega) (fun k hk => ?_)).setCell (by show w.heap.size ≤ M; omega) _
   have := (h.row.lt k hk).1; omega
structure ModelT (w : World) (M : Nat) (c : Cfg) (vE vH : Value) (bL oL cL : Nat) : Prop where
 obj : w.heap[M]? = some (.cells #[.int .i64 c.pairs, vE, vH, .slice (some ⟨bL, oL, none⟩) c.layers cL] 111 (0, 0))
 emb : MatWT w vE c.seedU 0 c.vocab c.width
 head : MatWT w vH c.seedU c.headAt c.vocab c.width
 cap : c.layers ≤ cL
 lays : ∃ (cur : Array Value) (fr : Nat × Nat), w.heap[bL]? = some (.cells cur 126 fr) ∧ ∀ l, l < c.layers → ∃ F : Nat → Value, (∀ f, f < 6 → cur[oL + l * 6 + f]? = some (F f)) ∧ LayerT w c l F
theorem ModelT.model {w : World} {M : Nat} {c : Cfg} {vE vH : Value} {bL oL cL : Nat} (h : ModelT w M c vE vH bL oL cL) : ModelI w M c vE vH bL oL cL := by
 obtain ⟨cur, fr, h1, h2⟩ := h.lays
 refine ⟨h.obj, h.emb.mat, h.head.mat, lt_blk h1, h.cap, fun l hl => ?_⟩
 obtain ⟨F, h3, hL⟩ := h2 l hl
 refine ⟨F 0, F 1, F 2, F 3, F 4, F 5, ?_, ?_, ?_, ?_, ?_, ?_, ⟨hL.q.mat, hL.k.mat, hL.v.mat, hL.o.mat, hL.up.mat, hL.down.mat⟩⟩
 · rw [cell_blk h1]; exact h3 0 (by omega)
 · rw [cell_blk h1]; exact h3 1 (by omega)
 · rw [cell_blk h1]; exact h3 2 (by omega)
 · rw [cell_blk h1]; exact h3 3 (by omega)
 · rw [cell_blk h1]; exact h3 4 (by omega)
 · rw [cell_blk h1]; exact h3 5 (by omega)
theorem ModelT.keep {w w' : World} {M : Nat} {c : Cfg} {vE vH : Value} {bL oL cL : Nat} (h : ModelT w M c vE vH bL oL cL) (h1 : KeepT 24 w w') (h2 : KeepT 3 w w') (h3 : KeepT 111 w w') (h4 : KeepT 126 w w') : ModelT w' M c vE vH bL oL cL := by
 obtain ⟨cur, fr, q1, q2⟩ := h.lays
 refine ⟨h3 _ _ _ h.obj, h.emb.keep h1 h2, h.head.keep h1 h2, h.cap, cur, fr, h4 _ _ _ q1, fun l hl => ?_⟩
 obtain ⟨F, q3, q4⟩ := q2 l hl
 exact ⟨F, q3, q4.keep h1 h2⟩
theorem NewI.finish {w u : World} {c : Cfg} (hc : c.ok) {M n : Nat} {vE vH vL vN : Value} {F : Nat → Value} (h : NewI w u c M vE vH vL F c.layers n) (hM : w.heap.size ≤ M) (hN : MatWT u vN c.seedU c.headAt c.vocab c.width) :
   ∃ bL oL cL, ModelT (u.setCell ⟨M, 2, none⟩ vN) M c vE vN bL oL cL ∧ Below w.heap.size w (u.setCell ⟨M, 2, none⟩ vN) := by
 have hl := hc.layers.1
 have k36 : KeepT 24 u (u.setCell ⟨M, 2, none⟩ vN) := KeepT.setCell h.obj (by decide) _
 have k3 : KeepT 3 u (u.setCell ⟨M, 2, none⟩ vN) := KeepT.setCell h.obj (by decide) _
 obtain ⟨q1, ⟨q2, q3⟩ | ⟨g, cap, cur, q2, q3, q4, q5, q6, q7, q8⟩⟩ := h.row
 · omega
 · have hgM : g ≠ M := by omega
   have q4' : (u.setCell ⟨M, 2, none⟩ vN).heap[g]? = some (Obj.cells cur 126 (0, 0)) := by rw [setCell_far _ _ _ _ _ hgM]; exact q4
   have cell : ∀ j, j < c.layers * 6 → cur[j]? = some (F j) := fun j hj => by
     have h1 := congrArg (fun l => l[j]?) q8
     simp [hj] at h1
     simpa using h1
   refine ⟨g, 0, cap, ⟨?_, h.emb.keep k36 k3, hN.keep k36 k3, q5, cur, _, q4', fun l hl' => ⟨fun f => F (l * 6 + f), fun f hf => ?_, (h.mats l hl').keep k36 k3⟩⟩, h.bel.setCell hM _⟩
   · rw [setCell_blk h.obj, q2]; rfl
   · rw [Nat.zero_add]; exact cell _ (by omega)
set_option maxRecDepth 100000 in
set_option maxHeartbeats 4000000 in
theorem dnew_any (c : Cfg) (hc : c.ok) (w : World) :
   Calls Try.prog 45 #[.agg #[.int .i64 c.blocks, .int .i64 c.slots, .int .i64 c.layers, .int .i64 c.heads, .int .i64 c.pairs, .int .i64 c.vocab, .int .i64 c.seed]] w fun e w' =>
     ∃ M vE vH bL oL cL, e = .returned (.pointer (some ⟨M, 0, none⟩)) ∧ w.heap.size ≤ M ∧ ModelT w' M c vE vH bL oL cL ∧ Below w.heap.size w w' := by
 obtain ⟨w1, w2⟩ := c.width_bd hc
 obtain ⟨a1, a2⟩ := hc.heads
 obtain ⟨b1, b2⟩ := hc.pairs
 obtain ⟨d1, d2⟩ := hc.vocab
 obtain ⟨e1, e2⟩ := hc.layers
 have hwd : 2 * (c.heads : Int) * c.pairs = c.width := by unfold Cfg.width; simp
 have hsU : IntKind.u64.wrap c.seed = c.seedU := by rw [u64_wrap]; rfl
 have hsb : 0 ≤ c.seedU ∧ c.seedU < 18446744073709551616 := by unfold Cfg.seedU; omega
 have hD0 : DealI ((w.alloc (.cells #[.int .i64 c.blocks, .int .i64 c.slots, .int .i64 c.layers, .int .i64 c.heads, .int .i64 c.pairs, .int .i64 c.vocab, .int .i64 c.seed] 26)).alloc (.cells #[.int .u64 c.seedU, .int .u64 0] 123)) (w.heap.size + 1) c.seedU 0 := alloc_two w _ _
 have hcfg0 : ((w.alloc (.cells #[.int .i64 c.blocks, .int .i64 c.slots, .int .i64 c.layers, .int .i64 c.heads, .int .i64 c.pairs, .int .i64 c.vocab, .int .i64 c.seed] 26)).alloc (.cells #[.int .u64 c.seedU, .int .u64 0] 123)).heap[w.heap.size]? = some (Obj.cells #[.int .i64 c.blocks, .int .i64 c.slots, .int .i64 c.layers, .int .i64 c.heads, .int .i64 c.pairs, .int .i64 c.vocab, .int .i64 c.seed] 26 (0, 0)) := by
   rw [alloc_old _ _ _ (by simp)]; exact alloc_new w _
 have hB0 : Below w.heap.size w ((w.alloc (.cells #[.int .i64 c.blocks, .int .i64 c.slots, .int .i64 c.layers, .int .i64 c.heads, .int .i64 c.pairs, .int .i64 c.vocab, .int .i64 c.seed] 26)).alloc (.cells #[.int .u64 c.seedU, .int .u64 0] 123)) := ((Below.refl _ _).alloc (Nat.le_refl _) _).alloc (by simp) _
 have hvw : c.vocab * c.width ≤ 12 * 8 := Nat.mul_le_mul (by omega) (by omega)
 go_enter Try.func45, Try.ntmps45
 go_wp2
 generalize (w.alloc (.cells #[.int .i64 c.blocks, .int .i64 c.slots, .int .i64 c.layers, .int .i64 c.heads, .int .i64 c.pairs, .int .i64 c.vocab, .int .i64 c.seed] 26)).alloc (.cells #[.int .u64 c.seedU, .int .u64 0] 123) = W0 at hD0 hcfg0 hB0 ⊢
 have s4 : W0.cell? ⟨w.heap.size, 4, none⟩ = some (.int .i64 c.pairs) := by rw [cell_blk hcfg0]; rfl
 have s5 : W0.cell? ⟨w.heap.size, 5, none⟩ = some (.int .i64 c.vocab) := by rw [cell_blk hcfg0]; rfl
 have hC0 := lt_blk hcfg0
 clear hwd hsU
 go_region_held3 (fun w' => w'.cell? ⟨w.heap.size, 4, none⟩ = some (.int .i64 c.pairs) ∧ w'.cell? ⟨w.heap.size, 5, none⟩ = some (.int .i64 c.vocab))
   (go_keep)
   (first
     | (go_at_call 65; refine (matrix_W (w.heap.size + 1) c.vocab c.width 0 c.seedU _ (by exact hD0) hsb (by omega) (by omega) (by omega)).mono ?_; rintro e u1 ⟨vE, rfl, hE, ⟨aE, rfl⟩, hD1, hO1⟩; have hcfg1 : u1.heap[w.heap.size]? = _ := (hO1.block w.heap.size hC0 (by omega)).trans hcfg0; have t4 : u1.cell? ⟨w.heap.size, 4, none⟩ = some (.int .i64 c.pairs) := (by rw [cell_blk hcfg1]; rfl); have t5 : u1.cell? ⟨w.heap.size, 5, none⟩ = some (.int .i64 c.vocab) := (by rw [cell_blk hcfg1]; rfl)))
 have hB1 : Below w.heap.size w u1 := (OnlyAt.below hO1 hB0.drew (by omega))
 have hC1 := lt_blk hcfg1
 have t2 : u1.cell? ⟨w.heap.size, 2, none⟩ = some (.int .i64 c.layers) := by rw [cell_blk hcfg1]; rfl
 have t2' : ∀ o, (u1.alloc o).cell? ⟨w.heap.size, 2, none⟩ = some (.int .i64 c.layers) := fun o => (World.cell?_alloc_past _ _ _ (by omega)).trans t2
 clear s4 s5 t4 t5 hcfg0 hB0 hD0 hO1
 go_wp2
 have hN0 : NewI w (u1.alloc (.cells #[.int .i64 c.pairs, .slice aE c.vocab c.vocab, .slice none 0 0, .slice none 0 0] 111)) c u1.heap.size (.slice aE c.vocab c.vocab) (.slice none 0 0) (.slice none 0 0) (fun _ => undef) 0 (c.from 0) := by
   refine ⟨by rw [alloc_old _ _ _ hC1]; exact hcfg1, ?_, alloc_new u1 _, hE.keep (KeepT.alloc _ _) (KeepT.alloc _ _), World.ownsRow_nil _ _ _ _, fun t ht => absurd ht (by omega), hB1.alloc hB1.size _⟩
   unfold DealI at hD1 ⊢
   rw [alloc_old _ _ _ (lt_blk hD1)]
   have e : 0 + c.vocab * c.width = c.from 0 := by unfold Cfg.from; simp
   rw [← e]; exact hD1
 have hM0 : w.heap.size + 1 < u1.heap.size := by unfold DealI at hD1; exact lt_blk hD1
 generalize u1.alloc (.cells #[.int .i64 c.pairs, .slice aE c.vocab c.vocab, .slice none 0 0, .slice none 0 0] 111) = W2 at hN0 ⊢
 generalize u1.heap.size = M at hN0 hM0 ⊢
 clear hcfg1 hE hD1 t2 t2' hB1 hC1 hC0
 go_loopw [27] (fun i wr => ∃ (l : Nat) (vL : Value) (F : Nat → Value), l ≤ c.layers ∧ i = .int .i64 l ∧ NewI w wr c M (.slice aE c.vocab c.vocab) (.slice none 0 0) vL F l (c.from l)) (fun i _ => c.layers - (intOf i).toNat)
 case atStart => exact ⟨0, _, _, Nat.zero_le _, rfl, hN0⟩
 case round =>
   clear hN0
   obtain ⟨l, vL, F, hl, rfl, hN⟩ := hrel
   by_cases hlt : l < c.layers
   · have hmb := c.many_bd hc
     have Hfit : Hid (c.from l + 8 * c.ww ≤ 50000) := by
       obtain ⟨f1, f2⟩ := Cfg.fits (c := c) l hlt
       show c.from l + 8 * c.ww ≤ 50000
       omega
     have Hww : Hid (c.width * c.width = c.ww) := rfl
     have Hww2 : Hid ((2 * c.width) * c.width = 2 * c.ww) := by show _ = 2 * (c.width * c.width); rw [Nat.mul_assoc]
     have Hww3 : Hid (c.width * (2 * c.width) = 2 * c.ww) := by show _ = 2 * (c.width * c.width); rw [Nat.mul_left_comm]
     have hal : OnlyAt (w.heap.size + 1) wr (wr.alloc (.cells #[.slice none 0 0, .slice none 0 0, .slice none 0 0, .slice none 0 0, .slice none 0 0, .slice none 0 0] 126)) := ⟨rfl, rfl, rfl, by simp, fun k hk _ => alloc_old wr _ k hk⟩
     have hLB := alloc_new wr (.cells #[.slice none 0 0, .slice none 0 0, .slice none 0 0, .slice none 0 0, .slice none 0 0, .slice none 0 0] 126)
     have hd : DealI (wr.alloc (.cells #[.slice none 0 0, .slice none 0 0, .slice none 0 0, .slice none 0 0, .slice none 0 0, .slice none 0 0] 126)) (w.heap.size + 1) c.seedU (c.from l) := by
       have := hN.deal
       unfold DealI at this ⊢
       rw [alloc_old _ _ _ (lt_blk this)]; exact this
     have hNl := hN.step (LB := wr.heap.size) hd (fun k hk h1 _ => hal.block k hk h1) (KeepT.alloc _ _) (KeepT.alloc _ _) (hal.below hN.bel (by omega)) (by have := lt_blk hN.cfg; omega) (by have := lt_blk hN.obj; omega) (fun e => by have := (hN.row.lt _ e).2; omega)
     have hbel := hNl.bel
     have hLM : M < wr.heap.size := lt_blk hN.obj
     have hLr : vL.ownBlock ≠ some wr.heap.size := fun e => by have := (hN.row.lt _ e).2; omega
     have hszl : (wr.alloc (.cells #[.slice none 0 0, .slice none 0 0, .slice none 0 0, .slice none 0 0, .slice none 0 0, .slice none 0 0] 126)).heap.size = wr.heap.size + 1 := by simp
     go_wp2_with fail
     generalize wr.alloc (.cells #[.slice none 0 0, .slice none 0 0, .slice none 0 0, .slice none 0 0, .slice none 0 0, .slice none 0 0] 126) = Wl at hLB hd hNl hbel hszl ⊢
     generalize wr.heap.size = LB at hLB hLM hLr hszl ⊢
     have hneL : LB ≠ w.heap.size + 1 := by omega
     clear hal hN
     go_wp2_with fail
     refine (matrix_W (w.heap.size + 1) c.width c.width (c.from l) c.seedU _ hd hsb (by omega) (by omega) (by have := Hfit.out; have := Hww.out; have := Hww2.out; have := Hww3.out; omega)).mono ?_
     rintro e y0 ⟨mv0, rfl, hm0, ⟨am0, rfl⟩, hd', hO⟩
     rw [show c.from l + c.width * c.width = c.from l + c.ww by have := Hww.out; have := Hww2.out; have := Hww3.out; omega] at hd'
     have hc0 : y0.cell? ⟨LB, 0, none⟩ = some (.slice none 0 0) := by rw [cell_blk ((hO.block LB (lt_blk hLB) hneL).trans hLB)]; rfl
     have hf0 := frozen_blk ((hO.block LB (lt_blk hLB) hneL).trans hLB) 0
     obtain ⟨hd2, hLB2, k36, k3, hoth2, hbel2, hsz2, k36', k3'⟩ := lay_step (f := 0) (.slice am0 c.width c.width) hd hLB hO hd' hbel (by omega) (by omega)
     replace hm0 := hm0.keep k36' k3'
     have K36 := k36
     have K3 := k3
     have Hoth := hide hoth2
     have Hsz := hsz2
     replace hd := hd2
     replace hLB := hLB2
     replace hbel := hbel2
     clear hd2 hLB2 k36 k3 hoth2 hbel2 hsz2 k36' k3' hO hd'
     go_wp2_with fail
     refine (matrix_W (w.heap.size + 1) c.width c.width (c.from l + c.ww) c.seedU _ hd hsb (by omega) (by omega) (by have := Hfit.out; have := Hww.out; have := Hww2.out; have := Hww3.out; omega)).mono ?_
     rintro e y1 ⟨mv1, rfl, hm1, ⟨am1, rfl⟩, hd', hO⟩
     rw [show c.from l + c.ww + c.width * c.width = c.from l + 2 * c.ww by have := Hww.out; have := Hww2.out; have := Hww3.out; omega] at hd'
     have hc1 : y1.cell? ⟨LB, 1, none⟩ = some (.slice none 0 0) := by rw [cell_blk ((hO.block LB (lt_blk hLB) hneL).trans hLB)]; rfl
     have hf1 := frozen_blk ((hO.block LB (lt_blk hLB) hneL).trans hLB) 1
     obtain ⟨hd2, hLB2, k36, k3, hoth2, hbel2, hsz2, k36', k3'⟩ := lay_step (f := 1) (.slice am1 c.width c.width) hd hLB hO hd' hbel (by omega) (by omega)
     replace hm1 := hm1.keep k36' k3'
     replace hm0 := hm0.keep k36 k3
     replace K36 := K36.trans k36
     replace K3 := K3.trans k3
     replace Hoth := hide (fun k (hk : k < Wl.heap.size) h1 h2 => (hoth2 k (Nat.lt_of_lt_of_le hk Hsz) h1 h2).trans (Hoth.out k hk h1 h2))
     replace Hsz := Nat.le_trans Hsz hsz2
     replace hd := hd2
     replace hLB := hLB2
     replace hbel := hbel2
     clear hd2 hLB2 k36 k3 hoth2 hbel2 hsz2 k36' k3' hO hd'
     go_wp2_with fail
     refine (matrix_W (w.heap.size + 1) c.width c.width (c.from l + 2 * c.ww) c.seedU _ hd hsb (by omega) (by omega) (by have := Hfit.out; have := Hww.out; have := Hww2.out; have := Hww3.out; omega)).mono ?_
     rintro e y2 ⟨mv2, rfl, hm2, ⟨am2, rfl⟩, hd', hO⟩
     rw [show c.from l + 2 * c.ww + c.width * c.width = c.from l + 3 * c.ww by have := Hww.out; have := Hww2.out; have := Hww3.out; omega] at hd'
     have hc2 : y2.cell? ⟨LB, 2, none⟩ = some (.slice none 0 0) := by rw [cell_blk ((hO.block LB (lt_blk hLB) hneL).trans hLB)]; rfl
     have hf2 := frozen_blk ((hO.block LB (lt_blk hLB) hneL).trans hLB) 2
     obtain ⟨hd2, hLB2, k36, k3, hoth2, hbel2, hsz2, k36', k3'⟩ := lay_step (f := 2) (.slice am2 c.width c.width) hd hLB hO hd' hbel (by omega) (by omega)
     replace hm2 := hm2.keep k36' k3'
     replace hm0 := hm0.keep k36 k3
     replace hm1 := hm1.keep k36 k3
     replace K36 := K36.trans k36
     replace K3 := K3.trans k3
     replace Hoth := hide (fun k (hk : k < Wl.heap.size) h1 h2 => (hoth2 k (Nat.lt_of_lt_of_le hk Hsz) h1 h2).trans (Hoth.out k hk h1 h2))
     replace Hsz := Nat.le_trans Hsz hsz2
     replace hd := hd2
     replace hLB := hLB2
     replace hbel := hbel2
     clear hd2 hLB2 k36 k3 hoth2 hbel2 hsz2 k36' k3' hO hd'
     go_wp2_with fail
     refine (matrix_W (w.heap.size + 1) c.width c.width (c.from l + 3 * c.ww) c.seedU _ hd hsb (by omega) (by omega) (by have := Hfit.out; have := Hww.out; have := Hww2.out; have := Hww3.out; omega)).mono ?_
     rintro e y3 ⟨mv3, rfl, hm3, ⟨am3, rfl⟩, hd', hO⟩
     rw [show c.from l + 3 * c.ww + c.width * c.width = c.from l + 4 * c.ww by have := Hww.out; have := Hww2.out; have := Hww3.out; omega] at hd'
     have hc3 : y3.cell? ⟨LB, 3, none⟩ = some (.slice none 0 0) := by rw [cell_blk ((hO.block LB (lt_blk hLB) hneL).trans hLB)]; rfl
     have hf3 := frozen_blk ((hO.block LB (lt_blk hLB) hneL).trans hLB) 3
     obtain ⟨hd2, hLB2, k36, k3, hoth2, hbel2, hsz2, k36', k3'⟩ := lay_step (f := 3) (.slice am3 c.width c.width) hd hLB hO hd' hbel (by omega) (by omega)
     replace hm3 := hm3.keep k36' k3'
     replace hm0 := hm0.keep k36 k3
     replace hm1 := hm1.keep k36 k3
     replace hm2 := hm2.keep k36 k3
     replace K36 := K36.trans k36
     replace K3 := K3.trans k3
     replace Hoth := hide (fun k (hk : k < Wl.heap.size) h1 h2 => (hoth2 k (Nat.lt_of_lt_of_le hk Hsz) h1 h2).trans (Hoth.out k hk h1 h2))
     replace Hsz := Nat.le_trans Hsz hsz2
     replace hd := hd2
     replace hLB := hLB2
     replace hbel := hbel2
     clear hd2 hLB2 k36 k3 hoth2 hbel2 hsz2 k36' k3' hO hd'
     go_wp2_with fail
     rw [show 2 * (c.width : Int) = ((2 * c.width : Nat) : Int) by simp]
     refine (matrix_W (w.heap.size + 1) (2 * c.width) c.width (c.from l + 4 * c.ww) c.seedU _ hd hsb (by omega) (by omega) (by have := Hfit.out; have := Hww.out; have := Hww2.out; have := Hww3.out; omega)).mono ?_
     rintro e y4 ⟨mv4, rfl, hm4, ⟨am4, rfl⟩, hd', hO⟩
     rw [show c.from l + 4 * c.ww + (2 * c.width) * c.width = c.from l + 6 * c.ww by have := Hww.out; have := Hww2.out; have := Hww3.out; omega] at hd'
     have hc4 : y4.cell? ⟨LB, 4, none⟩ = some (.slice none 0 0) := by rw [cell_blk ((hO.block LB (lt_blk hLB) hneL).trans hLB)]; rfl
     have hf4 := frozen_blk ((hO.block LB (lt_blk hLB) hneL).trans hLB) 4
     obtain ⟨hd2, hLB2, k36, k3, hoth2, hbel2, hsz2, k36', k3'⟩ := lay_step (f := 4) (.slice am4 (2 * c.width) (2 * c.width)) hd hLB hO hd' hbel (by omega) (by omega)
     replace hm4 := hm4.keep k36' k3'
     replace hm0 := hm0.keep k36 k3
     replace hm1 := hm1.keep k36 k3
     replace hm2 := hm2.keep k36 k3
     replace hm3 := hm3.keep k36 k3
     replace K36 := K36.trans k36
     replace K3 := K3.trans k3
     replace Hoth := hide (fun k (hk : k < Wl.heap.size) h1 h2 => (hoth2 k (Nat.lt_of_lt_of_le hk Hsz) h1 h2).trans (Hoth.out k hk h1 h2))
     replace Hsz := Nat.le_trans Hsz hsz2
     replace hd := hd2
     replace hLB := hLB2
     replace hbel := hbel2
     clear hd2 hLB2 k36 k3 hoth2 hbel2 hsz2 k36' k3' hO hd'
     go_wp2_with fail
     rw [show 2 * (c.width : Int) = ((2 * c.width : Nat) : Int) by simp]
     refine (matrix_W (w.heap.size + 1) c.width (2 * c.width) (c.from l + 6 * c.ww) c.seedU _ hd hsb (by omega) (by omega) (by have := Hfit.out; have := Hww.out; have := Hww2.out; have := Hww3.out; omega)).mono ?_
     rintro e y5 ⟨mv5, rfl, hm5, ⟨am5, rfl⟩, hd', hO⟩
     rw [show c.from l + 6 * c.ww + c.width * (2 * c.width) = c.from l + 8 * c.ww by have := Hww.out; have := Hww2.out; have := Hww3.out; omega] at hd'
     have hc5 : y5.cell? ⟨LB, 5, none⟩ = some (.slice none 0 0) := by rw [cell_blk ((hO.block LB (lt_blk hLB) hneL).trans hLB)]; rfl
     have hf5 := frozen_blk ((hO.block LB (lt_blk hLB) hneL).trans hLB) 5
     obtain ⟨hd2, hLB2, k36, k3, hoth2, hbel2, hsz2, k36', k3'⟩ := lay_step (f := 5) (.slice am5 c.width c.width) hd hLB hO hd' hbel (by omega) (by omega)
     replace hm5 := hm5.keep k36' k3'
     replace hm0 := hm0.keep k36 k3
     replace hm1 := hm1.keep k36 k3
     replace hm2 := hm2.keep k36 k3
     replace hm3 := hm3.keep k36 k3
     replace hm4 := hm4.keep k36 k3
     replace K36 := K36.trans k36
     replace K3 := K3.trans k3
     replace Hoth := hide (fun k (hk : k < Wl.heap.size) h1 h2 => (hoth2 k (Nat.lt_of_lt_of_le hk Hsz) h1 h2).trans (Hoth.out k hk h1 h2))
     replace Hsz := Nat.le_trans Hsz hsz2
     replace hd := hd2
     replace hLB := hLB2
     replace hbel := hbel2
     clear hd2 hLB2 k36 k3 hoth2 hbel2 hsz2 k36' k3' hO hd'
     have hN7 := hNl.step (LB := LB) hd Hoth.out K36 K3 hbel (by omega) (by omega) hLr
     have hLay : LayerT (y5.setCell ⟨LB, 5, none⟩ (.slice am5 c.width c.width)) c l (fun f => match f with | 0 => .slice am0 c.width c.width | 1 => .slice am1 c.width c.width | 2 => .slice am2 c.width c.width | 3 => .slice am3 c.width c.width | 4 => .slice am4 (2 * c.width) (2 * c.width) | _ => .slice am5 c.width c.width) := ⟨hm0, hm1, hm2, hm3, hm4, hm5⟩
     go_wp2_with fail
     generalize y5.setCell ⟨LB, 5, none⟩ (.slice am5 c.width c.width) = W7 at hN7 hLay hLB ⊢
     clear hd Hoth K36 K3 hbel hNl Hsz hm0 hm1 hm2 hm3 hm4 hm5 hc0 hc1 hc2 hc3 hc4 hc5 hf0 hf1 hf2 hf3 hf4 hf5
     have l0 : W7.cell? ⟨LB, 0, none⟩ = some (.slice am0 c.width c.width) := by rw [cell_blk hLB]; rfl
     have l1 : W7.cell? ⟨LB, 1, none⟩ = some (.slice am1 c.width c.width) := by rw [cell_blk hLB]; rfl
     have l2 : W7.cell? ⟨LB, 2, none⟩ = some (.slice am2 c.width c.width) := by rw [cell_blk hLB]; rfl
     have l3 : W7.cell? ⟨LB, 3, none⟩ = some (.slice am3 c.width c.width) := by rw [cell_blk hLB]; rfl
     have l4 : W7.cell? ⟨LB, 4, none⟩ = some (.slice am4 (2 * c.width) (2 * c.width)) := by rw [cell_blk hLB]; rfl
     have l5 : W7.cell? ⟨LB, 5, none⟩ = some (.slice am5 c.width c.width) := by rw [cell_blk hLB]; rfl
     have p3 : W7.cell? ⟨M, 3, none⟩ = some vL := by rw [cell_blk hN7.obj]; rfl
     have p4 := frozen_blk hN7.obj 3
     have hMl := lt_blk hN7.obj
     have p5 : ∀ o, (W7.alloc o).cell? ⟨M, 3, none⟩ = some vL := fun o => (World.cell?_alloc_past _ _ _ (by omega)).trans p3
     have hneM : some M ≠ vL.ownBlock := fun e => by have := (hN7.row.lt _ e.symm).1; omega
     obtain ⟨i0, hi, hz0, hz1, hz2⟩ := info_parts Try.info_layer
     have hrow := hN7.row
     have HN7 := hide hN7
     have Hend : Hid (c.from (l + 1) = c.from l + 8 * c.ww) := by
       show c.vocab * c.width + (l + 1) * 8 * c.ww = c.vocab * c.width + l * 8 * c.ww + 8 * c.ww
       rw [Nat.add_mul l 1 8, Nat.add_mul]; omega
     clear hN7 hLB
     go_region_law ((refine step_append_lies _ (by rfl) _ _ _ (by rfl) (M + 1) 126 i0 _ 6 144 Try.underlying109 hi hz0 hz1 hz2 rfl (by omega) vL l _ (by simp [Act.eval]) ((hrow.alloc _).drew) ⟨W7.heap.size, 0, none⟩ 1 1 [.slice am0 c.width c.width, .slice am1 c.width c.width, .slice am2 c.width c.width, .slice am3 c.width c.width, .slice am4 (2 * c.width) (2 * c.width), .slice am5 c.width c.width] (by simp [Act.eval]) (by rfl) (World.news_of_block (cs := #[.slice am0 c.width c.width, .slice am1 c.width c.width, .slice am2 c.width c.width, .slice am3 c.width c.width, .slice am4 (2 * c.width) (2 * c.width), .slice am5 c.width c.width]) (t := 126) (fr := (0, 0)) (heap_alloc_new W7 _)) (by simp [Value.oneCell']) (by omega) (by unfold maxLen; omega) (by omega) (by simp; omega) (W7.heap.size + 1) (by simp) ?_; intro gg cap u8 hown8 hgrow hat hlt8; have z1 := hgrow.cell ((World.cell?_alloc_past _ _ _ (by omega)).trans p3) hneM; have z2 := (World.frozen?_of_block (hgrow.block _ (by simp; omega) hneM)).trans ((World.frozen?_alloc_past _ _ _ (by omega)).trans p4)))
     all_goals go_wp2
     all_goals go_roundw
     all_goals first
       | exact ⟨l + 1, _, _, by omega, by go_num, by rw [Hend.out]; exact HN7.out.grow hM0 hown8 hgrow hLay⟩
       | (simp [intOf]; omega)
   · have hlL : c.layers = l := by omega
     subst hlL
     have s5 : wr.cell? ⟨w.heap.size, 5, none⟩ = some (.int .i64 c.vocab) := by rw [cell_blk hN.cfg]; rfl
     have hfh : c.from c.layers = c.headAt := rfl
     have hmb := c.many_bd hc
     have hfit : c.from c.layers + c.vocab * c.width ≤ 50000 := by
       have := (Cfg.fits (c := c) 0 (by omega)).2
       have e : c.from c.layers = c.vocab * c.width + c.layers * 8 * c.ww := rfl
       omega
     go_wp2_with fail
     refine (matrix_W (w.heap.size + 1) c.vocab c.width (c.from c.layers) c.seedU _ hN.deal hsb (by omega) (by omega) hfit).mono ?_
     rintro e u3 ⟨vH, rfl, hH, ⟨aH, rfl⟩, hD3, hO3⟩
     have hN3 := hN.step (LB := u3.heap.size) hD3 (fun k hk h1 _ => hO3.block k hk h1) (hO3.keep hN.deal (by decide)) (hO3.keep hN.deal (by decide)) (hO3.below hN.bel (by omega)) (by have := lt_blk hN.cfg; have := hO3.size; omega) (by have := lt_blk hN.obj; have := hO3.size; omega) (fun e => by have := (hN.row.lt _ e).2; have := hO3.size; omega)
     have s2 : u3.cell? ⟨M, 2, none⟩ = some (.slice none 0 0) := by rw [cell_blk hN3.obj]; rfl
     have s3 := frozen_blk hN3.obj 2
     clear s5 hN hO3
     obtain ⟨bL, oL, cL, hMod, hBel⟩ := hN3.finish hc (by omega) hH
     clear hN3 hH hD3
     go_wp2
     go_ret
     exact ⟨M, _, _, bL, oL, cL, rfl, by omega, hMod, hBel⟩
end Go.Proofs.Ytlmflighkkgikaa
