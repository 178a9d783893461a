import Derived.Test.YtaidjhlijadmiaaP23

/-
  The program's weights, dealt out.
-/
namespace Go.Proofs.Ytaidjhlijadmiaa
open Go.RowKit
attribute [local go_sem ↓] Go.wp_at_zero Go.wp_at_succ

/-- The dealer lies at D, next to deal the weight with the number n. -/
def DealI (w : World) (D : Nat) (s : Int) (n : Nat) : Prop := w.heap[D]? = some (.cells #[.int .u64 s, .int .u64 n] 130 (0, 0))

/-- The first k rows are laid. -/
def rowsLaid (base k j : Nat) (m : Nat) : Value := if j < k then .slice (some ⟨base + j, 0, none⟩) m m else .slice none 0 0

/-- So far k rows are dealt. -/
structure Dealt (w wr : World) (D rows m start : Nat) (s : Int) (k : Nat) : Prop where
  row : wr.rowIs w.heap.size 36 rows (fun i => rowsLaid (w.heap.size + 1) k i m)
  done : ∀ i, i < k → wr.rowIs (w.heap.size + 1 + i) 3 m (fun j => .int .i64 (weightI s (start + i * m + j)))
  deal : DealI wr D s (start + k * m)
  size : wr.heap.size = w.heap.size + 1 + k
  other : ∀ x, x < w.heap.size → x ≠ D → wr.heap[x]? = w.heap[x]?
  os : wr.os = w.os
  tape : wr.tape = w.tape
  output : wr.output = w.output

/-- .. and of the next one the first j. -/
structure Dealing (w wr : World) (D rows m start : Nat) (s : Int) (k j : Nat) : Prop where
  row : wr.rowIs w.heap.size 36 rows (fun i => rowsLaid (w.heap.size + 1) (k + 1) i m)
  done : ∀ i, i < k → wr.rowIs (w.heap.size + 1 + i) 3 m (fun j => .int .i64 (weightI s (start + i * m + j)))
  cur : wr.rowIs (w.heap.size + 1 + k) 3 m (fun i => .int .i64 (filled (fun j => weightI s (start + k * m + j)) j i))
  deal : DealI wr D s (start + k * m + j)
  size : wr.heap.size = w.heap.size + 1 + (k + 1)
  other : ∀ x, x < w.heap.size → x ≠ D → wr.heap[x]? = w.heap[x]?
  os : wr.os = w.os
  tape : wr.tape = w.tape
  output : wr.output = w.output

theorem Dealt.next {w wr : World} {D rows m start k : Nat} {s : Int} (h : Dealt w wr D rows m start s k) (hD : D < w.heap.size) :
    Dealing w ((wr.alloc (.cells (madeCells #[.int .i64 0] m) 3)).setCell ⟨w.heap.size, k, none⟩ (.slice (some ⟨w.heap.size + 1 + k, 0, none⟩) m m)) D rows m start s k 0 := by
  have hsz := h.size
  refine ⟨(((h.row.alloc _).set k _).congr (fun i _ => ?_)), fun i hi => ((h.done i hi).alloc _).setOther (by simp; omega) _, ?_, ?_, by simp [World.setCell]; omega, fun x hx hne => ?_, h.os, h.tape, h.output⟩
  · unfold rowsLaid
    by_cases e : i = k
    · subst e; simp
    · rw [if_neg e]
      by_cases h1 : i < k
      · rw [if_pos h1, if_pos (by omega)]
      · rw [if_neg h1, if_neg (by omega)]
  · have h1 := fill_start wr m (fun j => weightI s (start + k * m + j))
    rw [hsz] at h1
    exact h1.setOther (by simp; omega) _
  · show (World.setCell _ _ _).heap[D]? = _
    rw [setCell_far _ _ _ _ _ (by omega), alloc_old _ _ _ (by omega)]
    exact h.deal
  · rw [setCell_far _ _ _ _ _ (by omega), alloc_old _ _ _ (by omega)]
    exact h.other x hx hne

theorem Dealing.next {w wr : World} {D rows m start k j : Nat} {s : Int} (h : Dealing w wr D rows m start s k j) (hD : D < w.heap.size) (_hn : start + k * m + j < 100000) :
    Dealing w ((wr.setCell ⟨w.heap.size + 1 + k, j, none⟩ (.int .i64 (weightI s (start + k * m + j)))).setCell ⟨D, 1, none⟩ (.int .u64 ((start + k * m + j + 1 : Nat) : Int))) D rows m start s k (j + 1) := by
  refine ⟨(h.row.setOther (by simp; omega) _).setOther (by simp; omega) _, fun i hi => ((h.done i hi).setOther (by simp; omega) _).setOther (by simp; omega) _, (fill_step h.cur rfl).setOther (by simp; omega) _, ?_, by simp [World.setCell]; exact h.size, fun x hx hne => ?_, h.os, h.tape, h.output⟩
  · show (World.setCell _ _ _).heap[D]? = _
    have h1 : (wr.setCell ⟨w.heap.size + 1 + k, j, none⟩ (.int .i64 (weightI s (start + k * m + j)))).heap[D]? = some (Obj.cells #[.int .u64 s, .int .u64 ((start + k * m + j : Nat) : Int)] 130 (0, 0)) := by
      rw [setCell_far _ _ _ _ _ (by omega)]; exact h.deal
    rw [setCell_blk h1]; rfl
  · rw [setCell_far _ _ _ _ _ hne, setCell_far _ _ _ _ _ (by omega)]
    exact h.other x hx hne

theorem Dealing.drew {w wr : World} {D rows m start k j : Nat} {s : Int} (h : Dealing w wr D rows m start s k j) : Dealing w wr.drew D rows m start s k j :=
  ⟨h.row, h.done, h.cur, h.deal, h.size, h.other, h.os, h.tape, h.output⟩

theorem Dealing.done' {w wr : World} {D rows m start k : Nat} {s : Int} (h : Dealing w wr D rows m start s k m) : Dealt w wr D rows m start s (k + 1) := by
  refine ⟨h.row, fun i hi => ?_, ?_, by rw [h.size], h.other, h.os, h.tape, h.output⟩
  · by_cases e : i = k
    · subst e
      exact h.cur.congr (fun j hj => by simp only [filled, if_pos hj])
    · exact h.done i (by omega)
  · have := h.deal
    rw [Nat.add_assoc] at this
    rw [Nat.add_mul, Nat.one_mul]; exact this

set_option maxRecDepth 100000 in
set_option maxHeartbeats 1000000 in
theorem matrix_any (D rows m start : Nat) (s : Int) (w : World) (hD : DealI w D s start) (hs : 0 ≤ s ∧ s < 18446744073709551616) (hr : rows ≤ 100) (hm : m ≤ 100) (hst : start + rows * m ≤ 50000) :
    Calls Try.prog 63 #[.pointer (some ⟨D, 0, none⟩), .int .i64 rows, .int .i64 m] w fun e w' =>
      e = .returned (.slice (some ⟨w.heap.size, 0, none⟩) rows rows) ∧ w'.rowIs w.heap.size 36 rows (fun j => .slice (some ⟨w.heap.size + 1 + j, 0, none⟩) m m) ∧
      (∀ i, i < rows → w'.rowIs (w.heap.size + 1 + i) 3 m (fun j => .int .i64 (weightI s (start + i * m + j)))) ∧ DealI w' D s (start + rows * m) ∧
      w'.heap.size = w.heap.size + 1 + rows ∧ (∀ k, k < w.heap.size → k ≠ D → w'.heap[k]? = w.heap[k]?) ∧ w'.os = w.os ∧ w'.tape = w.tape ∧ w'.output = w.output := by
  have hmk := run_make_row' (P := Try.prog) 131 36 (.slice none 0 0) 24 Try.underlying131 (by kernel_rfl) rfl .i64 .i64 rows (by omega) (by omega)
  have hmk2 := run_make_row' (P := Try.prog) 36 3 (.int .i64 0) 8 Try.underlying36 Try.info_int rfl .i64 .i64 m (by omega) (by omega)
  have hDl := lt_blk hD
  go_enter Try.func63, Try.ntmps63
  go_wp2
  clear hmk
  go_loopw [14] (fun i wr => ∃ k : Nat, k ≤ rows ∧ i = .int .i64 k ∧ Dealt w wr D rows m start s k) (fun i _ => rows - (intOf i).toNat)
  case atStart =>
    refine ⟨0, Nat.zero_le _, rfl, (World.rowIs_made w (.slice none 0 0) rows 36).congr (fun i _ => by simp [rowsLaid]), fun i hi => absurd hi (by omega), ?_, by simp, fun x hx _ => alloc_old w _ x hx, rfl, rfl, rfl⟩
    show (World.alloc _ _).heap[D]? = _
    rw [alloc_old _ _ _ hDl, Nat.zero_mul]; exact hD
  case round =>
    obtain ⟨k, hk, rfl, hdt⟩ := hrel
    by_cases hlt : k < rows
    · have hkm : k * m + m ≤ rows * m := by
        have := Nat.mul_le_mul_right m (show k + 1 ≤ rows from hlt)
        rw [Nat.add_mul] at this; omega
      have hsz := hdt.size
      have r1 := hdt.row.cell hlt
      have r2 := hdt.row.frozen k
      have r3 : ∀ o, (wr.alloc o).cell? ⟨w.heap.size, k, none⟩ = some (rowsLaid (w.heap.size + 1) k k m) := fun o => (World.cell?_alloc_past _ _ _ (by omega)).trans r1
      have r4 : ∀ o, (wr.alloc o).frozen? ⟨w.heap.size, k, none⟩ = false := fun o => (World.frozen?_alloc_past _ _ _ (by omega)).trans r2
      have hdg := hdt.next hDl
      have Hdg := hide hdg
      clear hdg
      go_wp2
      generalize (wr.alloc (.cells (madeCells #[.int .i64 0] m) 3)).setCell ⟨w.heap.size, k, none⟩ (.slice (some ⟨w.heap.size + 1 + k, 0, none⟩) m m) = W2 at Hdg ⊢
      clear hmk2 r1 r2 r3 r4 hsz hdt
      go_loopw [27] (fun i wr => ∃ j : Nat, j ≤ m ∧ i = .int .i64 j ∧ Dealing w wr D rows m start s k j) (fun i _ => m - (intOf i).toNat)
      case atStart => exact ⟨0, Nat.zero_le _, rfl, Hdg.out⟩
      case round =>
        obtain ⟨j, hj, rfl, hdg⟩ := hrel
        by_cases hjl : j < m
        · obtain ⟨N, hN⟩ : ∃ N, N = start + k * m + j := ⟨_, rfl⟩
          have HN := hide hN
          have q1 : wr.cell? ⟨w.heap.size, k, none⟩ = some (.slice (some ⟨w.heap.size + 1 + k, 0, none⟩) m m) := by
            rw [hdg.row.cell hlt]; unfold rowsLaid; rw [if_pos (by omega)]
          have hdl := hdg.deal
          rw [← hN] at hdl
          have q2 : wr.cell? ⟨D, 0, none⟩ = some (.int .u64 s) := by rw [cell_blk hdl]; rfl
          have q3 : wr.cell? ⟨D, 1, none⟩ = some (.int .u64 N) := by rw [cell_blk hdl]; rfl
          have q4 := frozen_blk hdl 1
          have q5 := hdg.cur.cell hjl
          have q6 := hdg.cur.frozen j
          have n1 : ¬ w.heap.size + 1 + k = w.heap.size := by omega
          have n2 : ¬ w.heap.size + 1 + k = D := by omega
          have n3 : ¬ w.heap.size = w.heap.size + 1 + k := by omega
          have n4 : ¬ D = w.heap.size + 1 + k := by omega
          have hwrap : IntKind.u64.wrap ((N : Int) + 1) = (N : Int) + 1 := by rw [u64_wrap]; omega
          have i1 : (0 : Int) ≤ (k : Int) := by omega
          have i2 : (k : Int) < (rows : Int) := by omega
          have i3 : (0 : Int) ≤ (j : Int) := by omega
          have i4 : (j : Int) < (m : Int) := by omega
          have hnx := hdg.next hDl (by omega)
          rw [← hN] at hnx
          have Hnx := hide hnx
          have hNb : N ≤ 100000 := by omega
          clear hnx hdl hN hdg
          go_wp2
          go_region_held3 (fun w' => w'.cell? ⟨w.heap.size, k, none⟩ = some (.slice (some ⟨w.heap.size + 1 + k, 0, none⟩) m m) ∧ w'.cell? ⟨D, 0, none⟩ = some (.int .u64 s) ∧ w'.cell? ⟨D, 1, none⟩ = some (.int .u64 N))
            (go_keep)
            (first
              | (go_at_call 78; refine Calls_use (weight_any s N _ hs hNb) ?_))
          have z3 : (wr.setCell ⟨w.heap.size + 1 + k, j, none⟩ (.int .i64 (weightI s N))).cell? ⟨D, 1, none⟩ = some (.int .u64 N) := by rw [World.cell?_setCell_other _ _ _ _ (by simp)]; exact q3
          have z4 : (wr.setCell ⟨w.heap.size + 1 + k, j, none⟩ (.int .i64 (weightI s N))).frozen? ⟨D, 1, none⟩ = false := (World.frozen?_setCell _ _ _ _).trans q4
          go_wp2
          go_roundw
          case rel => exact ⟨j + 1, by omega, by go_num, (Hnx.out).drew⟩
          case measure => simp [intOf]; omega
        · have hjm : m = j := by omega
          subst hjm
          have hdn := hdg.done'
          clear hdg
          go_wp2
          go_roundw
          case rel => exact ⟨k + 1, by omega, by go_num, hdn⟩
          case measure => simp [intOf]; omega
    · have hkr : k = rows := by omega
      subst hkr
      go_wp2
      go_ret
      exact ⟨rfl, hdt.row.congr (fun i hi => by unfold rowsLaid; rw [if_pos hi]), hdt.done, hdt.deal, hdt.size, hdt.other, hdt.os, hdt.tape, hdt.output⟩

end Go.Proofs.Ytaidjhlijadmiaa
