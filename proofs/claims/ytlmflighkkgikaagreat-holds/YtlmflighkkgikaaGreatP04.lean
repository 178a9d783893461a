import Derived.Test.YtlmflighkkgikaaGreatP02
import Derived.Test.YtlmflighkkgikaaGreatP03

namespace Go.Proofs.YtlmflighkkgikaaGreat
open Go.RowKit
attribute [local go_sem ↓] Go.wp_at_zero Go.wp_at_succ
structure Cfg where
 blocks : Nat
 slots : Nat
 layers : Nat
 heads : Nat
 pairs : Nat
 vocab : Nat
 seed : Int
structure Cfg.ok (c : Cfg) : Prop where
 blocks : 1 ≤ c.blocks ∧ c.blocks ≤ 32
 slots : 1 ≤ c.slots ∧ c.slots ≤ 4
 layers : 1 ≤ c.layers ∧ c.layers ≤ 2
 heads : 1 ≤ c.heads ∧ c.heads ≤ 2
 pairs : 1 ≤ c.pairs ∧ c.pairs ≤ 2
 vocab : 2 ≤ c.vocab ∧ c.vocab ≤ 12
 seed : -9223372036854775808 ≤ c.seed ∧ c.seed ≤ 9223372036854775807
def Cfg.width (c : Cfg) : Nat := 2 * c.heads * c.pairs
def Cfg.seedU (c : Cfg) : Int := c.seed % 18446744073709551616
def Cfg.weight (c : Cfg) (n : Nat) : Int := weightI c.seedU n
def Cfg.many (c : Cfg) : Nat := 2 * c.vocab * c.width + c.layers * 8 * c.width * c.width
def Cfg.cells (c : Cfg) : List Value := [.int .i64 c.blocks, .int .i64 c.slots, .int .i64 c.layers, .int .i64 c.heads, .int .i64 c.pairs, .int .i64 c.vocab, .int .i64 c.seed]
theorem Cfg.width_bd {c : Cfg} (h : c.ok) : 2 ≤ c.width ∧ c.width ≤ 8 := by
 have h1 := h.heads
 have h2 := h.pairs
 unfold Cfg.width
 have a : c.heads = 1 ∨ c.heads = 2 := by omega
 rcases a with a | a <;> rw [a] <;> omega
theorem owns_slice {w : World} {base : Nat} {e : TypeId} {size : Nat} {v : Value} {n : Nat} {xs : List Value} (h : w.ownsRow base e size v n xs) : ∃ a c, v = .slice a n c := by
 obtain ⟨_, ⟨rfl, rfl⟩ | ⟨g, cap, cur, rfl, _⟩⟩ := h
 · exact ⟨_, _, rfl⟩
 · exact ⟨_, _, rfl⟩
theorem alloc_two (w : World) (o1 o2 : Obj) : ((w.alloc o1).alloc o2).heap[w.heap.size + 1]? = some o2 := by
 have := alloc_new (w.alloc o1) o2
 simpa using this
def stateI (s : Int) (k : Nat) : Int := (s + 11400714819323198485 * k) % 18446744073709551616
theorem stateI_zero (s : Int) : stateI s 0 = s % 18446744073709551616 := by simp [stateI]
theorem stateI_succ (s : Int) (k : Nat) : IntKind.u64.wrap (stateI s k + 11400714819323198485) = stateI s (k + 1) := by
 rw [u64_wrap]; unfold stateI; omega
set_option maxRecDepth 100000 in
set_option maxHeartbeats 1000000 in
theorem refmade_any (c : Cfg) (hc : c.ok) (w : World) :
   Calls Tryz.prog 42 #[.agg #[.int .i64 c.blocks, .int .i64 c.slots, .int .i64 c.layers, .int .i64 c.heads, .int .i64 c.pairs, .int .i64 c.vocab, .int .i64 c.seed]] w fun e w' =>
     ∃ vW, e = .returned (.pointer (some ⟨w.heap.size + 1, 0, none⟩)) ∧
       w'.heap[w.heap.size + 1]? = some (.cells (c.cells ++ [vW, .int .i64 c.width]).toArray 87 (0, 0)) ∧ w'.ownsRow (w.heap.size + 2) 3 1 vW c.many ((List.range c.many).map fun i => .int .i64 (c.weight i)) ∧ Below w.heap.size w w' := by
 obtain ⟨i0, hi, hz0, hz1, hz2⟩ := info_parts Tryz.info_int
 obtain ⟨w1, w2⟩ := c.width_bd hc
 obtain ⟨a1, a2⟩ := hc.heads
 obtain ⟨b1, b2⟩ := hc.pairs
 obtain ⟨d1, d2⟩ := hc.vocab
 obtain ⟨e1, e2⟩ := hc.layers
 obtain ⟨f1, f2⟩ := hc.seed
 have hwd : 2 * (c.heads : Int) * c.pairs = c.width := by unfold Cfg.width; simp
 have p1 : 0 ≤ 2 * (c.vocab : Int) * c.width := Int.mul_nonneg (by omega) (by omega)
 have p2 : 2 * (c.vocab : Int) * c.width ≤ 24 * 8 := Int.mul_le_mul (by omega) (by omega) (by omega) (by omega)
 have q1 : 0 ≤ (c.layers : Int) * 8 * c.width := Int.mul_nonneg (by omega) (by omega)
 have q2 : (c.layers : Int) * 8 * c.width ≤ 16 * 8 := Int.mul_le_mul (by omega) (by omega) (by omega) (by omega)
 have r1 : 0 ≤ (c.layers : Int) * 8 * c.width * c.width := Int.mul_nonneg q1 (by omega)
 have r2 : (c.layers : Int) * 8 * c.width * c.width ≤ 128 * 8 := Int.mul_le_mul (by omega) (by omega) (by omega) (by omega)
 have hmany : 2 * (c.vocab : Int) * c.width + (c.layers : Int) * 8 * c.width * c.width = c.many := by unfold Cfg.many; simp
 have hm : c.many ≤ 1216 := by omega
 go_enter Tryz.func42, Tryz.ntmps42
 go_wp2
 go_quiet (fail)
 go_wp2
 clear hwd hmany
 go_loopw [5, 6] (fun u i wr => ∃ k : Nat, ∃ o, k ≤ c.many ∧ i = .int .i64 k ∧ u = .int .u64 (stateI c.seedU k) ∧
     wr.heap[w.heap.size + 1]? = some (.cells (c.cells ++ [o, .int .i64 c.width]).toArray 87 (0, 0)) ∧
     wr.ownsRow (w.heap.size + 2) 3 1 o k ((List.range k).map fun i => .int .i64 (c.weight i)) ∧ Below w.heap.size w wr ∧ w.heap.size + 2 ≤ wr.heap.size) (fun _ i _ => c.many - (intOf i).toNat)
 case atStart =>
   refine ⟨0, .slice none 0 0, Nat.zero_le _, rfl, ?_, ?_, World.ownsRow_nil _ _ _ _, ?_, ?_⟩
   · rw [stateI_zero, u64_wrap]; unfold Cfg.seedU; simp
   · exact alloc_two w _ _
   · exact below_drewN (((Below.refl _ _).alloc (Nat.le_refl _) _).alloc (by simp) _) _
   · simp
 case round =>
   obtain ⟨k, o, hk, rfl, rfl, hblk, hown, hbel, hsz⟩ := hrel
   by_cases hlt : k < c.many
   · have c7 : wr.cell? ⟨w.heap.size + 1, 7, none⟩ = some o := by rw [cell_blk hblk]; rfl
     have f7 := frozen_blk hblk 7
     have hs := stateI_succ c.seedU k
     have hwk : c.weight k = mixI (stateI c.seedU (k + 1)) := by unfold Cfg.weight weightI stateI; simp
     have HW := hide hwk
     clear hwk
     go_wp2_with (at_builtin; refine wpList_append_own _ rfl _ _ 36 rfl (w.heap.size + 2) 3 i0 (.int .i64 0) 1 8 Tryz.underlying36 hi hz0 hz1 hz2 rfl (by decide) _ _ _ rfl (hown.alloc _) ⟨wr.heap.size, 0, none⟩ 1 1 [.int .i64 ?xx] rfl rfl ?c1 ?c2 ?c3 ?c4 ?c5 ?_)
     case c1 => exact one_new wr _ _
     case c2 => exact one_int _
     case c3 => unfold maxLen; omega
     case c4 => omega
     case c5 => simp; omega
     intro v' w1 hown' hgrow _
     rw [weight_wraps] at hown'
     have hown2 : w1.ownsRow (w.heap.size + 2) 3 1 v' (k + 1) ((List.range (k + 1)).map fun i => .int .i64 (c.weight i)) := by
       rw [range_map_succ (fun i => Value.int .i64 (c.weight i)), HW.out]; exact hown'
     have hne : some (w.heap.size + 1) ≠ o.ownBlock := fun h => by have := (hown.lt _ h.symm).1; omega
     have hblk1 := (hgrow.block (w.heap.size + 1) (by simp; omega) hne).trans ((alloc_old wr _ _ (by omega)).trans hblk)
     have hbel1 : Below w.heap.size w w1 := (hbel.alloc (by omega) _).grown hgrow (by simp; omega) (fun g hg => by have := (hown.lt g hg).1; omega)
     have hsz1 : w.heap.size + 2 ≤ w1.heap.size := by have := hgrow.size; simp at this; omega
     clear hown hown' hgrow HW c7 f7 hblk hbel
     obtain ⟨av, cv, rfl⟩ := owns_slice hown2
     have c7 : w1.cell? ⟨w.heap.size + 1, 7, none⟩ = some o := by rw [cell_blk hblk1]; rfl
     have f7 := frozen_blk hblk1 7
     go_wp2
     go_roundw
     case rel =>
       refine ⟨k + 1, _, by omega, by go_num, rfl, ?_, ownsRow_setCell_below hown2 (by show w.heap.size + 1 < w.heap.size + 2; omega) _, hbel1.setCell (by show w.heap.size ≤ w.heap.size + 1; omega) _, by simpa [World.setCell] using hsz1⟩
       rw [setCell_blk hblk1]; rfl
     case measure => simp [intOf]; omega
   · have hkr : c.many = k := by omega
     rw [← hkr] at hown ⊢
     go_wp2
     go_ret
     exact ⟨o, rfl, hblk, hown, hbel⟩
end Go.Proofs.YtlmflighkkgikaaGreat
