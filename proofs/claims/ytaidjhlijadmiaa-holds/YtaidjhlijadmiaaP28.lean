import Derived.BigQuiet
import Derived.Deep.QuietTactic
import Derived.Test.YtaidjhlijadmiaaP19

/-
  The reference's tails, Stats, wrong, Tokens.
-/
namespace Go.Proofs.Ytaidjhlijadmiaa
open Go.RowKit
attribute [local go_sem ↓] Go.wp_at_zero Go.wp_at_succ

/-- How many of the first n have a tail. -/
def cntT (tl : Nat → Nat) : Nat → Nat
  | 0 => 0
  | n + 1 => if 0 < tl n then cntT tl n + 1 else cntT tl n

theorem cntT_le (tl : Nat → Nat) (n : Nat) : cntT tl n ≤ n := by
  induction n with
  | zero => simp [cntT]
  | succ n ih => simp only [cntT]; split <;> omega

theorem cntT_yes (tl : Nat → Nat) (n : Nat) (h : 0 < tl n) : cntT tl (n + 1) = cntT tl n + 1 := by simp [cntT, h]
theorem cntT_no (tl : Nat → Nat) (n : Nat) (h : ¬ 0 < tl n) : cntT tl (n + 1) = cntT tl n := by simp only [cntT, if_neg h]

set_option maxRecDepth 100000 in
set_option maxHeartbeats 2000000 in
theorem reftails_any (Y d : Nat) (c : Cfg) (L : List (Int × List Nat)) (tl : Nat → Nat) (nt : Nat) (vL : Value) (w : World) (h : RefI w Y d c L tl nt vL) :
    Calls Try.prog 30 #[.pointer (some ⟨Y, 0, none⟩), .int .i64 0] w fun e w' => e = .returned (.tuple #[.int .i64 (cntT tl L.length), .int .i64 0]) ∧ w' = w := by
  have y1 : w.cell? ⟨Y, 1, none⟩ = some vL := by rw [cell_blk h.obj]; rfl
  have hmany := h.many
  obtain ⟨a, cap, rfl, hc1, hc2, hcells⟩ := h.seqs.cells
  have HC := hide hcells
  have HA := hide h.tails.apart
  clear hcells
  go_enter Try.func30, Try.ntmps30
  go_wp2
  go_loop [6, 7, 8] (fun m n i => ∃ k : Nat, k ≤ L.length ∧ i = .int .i64 k ∧ m = .int .i64 (cntT tl k) ∧ n = .int .i64 0) (fun _ _ i => L.length - (intOf i).toNat)
  case atStart => exact ⟨0, Nat.zero_le _, rfl, rfl, rfl⟩
  case round =>
    obtain ⟨k, hk, rfl, rfl, rfl⟩ := hrel
    have hck := cntT_le tl k
    by_cases hlt : k < L.length
    · obtain ⟨g, rfl, hg, hcell⟩ := HC.out (by omega)
      obtain ⟨_, _, c2⟩ := hcell k hlt
      have Hcell := hide hcell
      clear hcell
      have Hyes := hide (cntT_yes tl k)
      have Hno := hide (cntT_no tl k)
      by_cases hpos : 0 < tl k
      · have hd1 : decide (0 < tl k) = true := by simpa using hpos
        have hd2 : decide (tl k = 0) = false := by simp; omega
        go_wp2
        go_loop [10, 11] (fun f i => ∃ j : Nat, j ≤ k ∧ i = .int .i64 j ∧ f = .bool true) (fun _ i => k - (intOf i).toNat)
        case atStart => exact ⟨0, Nat.zero_le _, rfl, rfl⟩
        case round =>
          obtain ⟨j, hj, rfl, rfl⟩ := hrel
          by_cases hjk : j < k
          · obtain ⟨_, _, cj⟩ := Hcell.out j (by omega)
            have hne : ¬ tl j = tl k := fun e => by have := HA.out k j hlt hjk e.symm; omega
            have hd3 : decide (tl j = tl k) = false := by simpa using hne
            go_wp2
            go_round
            case rel => exact ⟨j + 1, by omega, by go_num, congrArg Value.bool (by simp; omega)⟩
            case measure => simp [intOf]; omega
          · go_wp2
            go_round
            case rel => exact ⟨k + 1, by omega, by go_num, by rw [Hyes.out hpos]; go_num, rfl⟩
            case measure => simp [intOf]; omega
      · have hz : tl k = 0 := by omega
        rw [hz] at c2
        go_wp2
        go_loop [10, 11] (fun f i => ∃ j : Nat, j ≤ k ∧ i = .int .i64 j ∧ f = .bool false) (fun _ i => k - (intOf i).toNat)
        case atStart => exact ⟨0, Nat.zero_le _, rfl, rfl⟩
        case round =>
          obtain ⟨j, hj, rfl, rfl⟩ := hrel
          by_cases hjk : j < k
          · go_wp2
            go_round
            case rel => exact ⟨j + 1, by omega, by go_num, rfl⟩
            case measure => simp [intOf]; omega
          · go_wp2
            go_round
            case rel => exact ⟨k + 1, by omega, by go_num, by rw [Hno.out hpos], rfl⟩
            case measure => simp [intOf]; omega
    · have hkr : k = L.length := by omega
      subst hkr
      go_wp2
      go_ret2
      exact ⟨rfl, rfl⟩

set_option maxRecDepth 100000 in
set_option maxHeartbeats 2000000 in
theorem refstats_any (Y d : Nat) (c : Cfg) (hc : c.ok) (L : List (Int × List Nat)) (tl : Nat → Nat) (nt : Nat) (vL : Value) (w : World) (h : RefI w Y d c L tl nt vL) :
    Calls Try.prog 12 #[.pointer (some ⟨Y, 0, none⟩)] w fun e w' =>
      e = .returned (.agg #[.int .i64 ((c.blocks : Int) - ((usedOf c.slots (toksOf L)).length + cntT tl L.length : Nat)), .int .i64 0, .int .i64 ((usedOf c.slots (toksOf L)).length + cntT tl L.length : Nat)]) ∧ Below w.heap.size w w' := by
  have hub := used_bd (s := c.slots) L.length h.many (fun i hi => (h.len i hi).2)
  rw [List.take_of_length_le (by rw [toksOf_len]; omega)] at hub
  have hcb := cntT_le tl L.length
  have hmany := h.many
  obtain ⟨bl1, bl2⟩ := hc.blocks
  go_enter Try.func12, Try.ntmps12
  go_wp2_with fail
  have hB0 : Below w.heap.size w (w.alloc (.cells #[.int .i64 0, .int .i64 0, .int .i64 0] 42)) := (Below.refl _ _).alloc (Nat.le_refl _) _
  have hnew := alloc_new w (.cells #[.int .i64 0, .int .i64 0, .int .i64 0] 42)
  generalize w.alloc (.cells #[.int .i64 0, .int .i64 0, .int .i64 0] 42) = W0 at hB0 hnew ⊢
  refine Calls_use (reftails_any Y d c L tl nt vL W0 (h.below hB0)) ?_
  go_wp2_with fail
  refine (refused_any Y d c hc L tl nt vL W0 (h.below hB0)).mono ?_
  rintro e W1 ⟨r, rfl, hr, hb1⟩
  obtain ⟨ar, cr, er⟩ := hr.len
  subst er
  have hB1 := hB0.trans (hb1.mono hB0.size)
  have h1 := h.below hB1
  have y0 : W1.cell? ⟨Y, 0, none⟩ = some (.pointer (some ⟨d, 0, none⟩)) := by rw [cell_blk h1.obj]; rfl
  have y2 : W1.cell? ⟨Y, 2, none⟩ = some (.slice none 0 0) := by rw [cell_blk h1.obj]; rfl
  have d0 : W1.cell? ⟨d, 0, none⟩ = some (.int .i64 c.blocks) := by
    obtain ⟨vW, h2, _⟩ := h1.dec
    rw [cell_blk h2]; rfl
  have hn1 := (hb1.block _ (lt_blk hnew)).trans hnew
  have n0 : W1.cell? ⟨w.heap.size, 0, none⟩ = some (.int .i64 0) := by rw [cell_blk hn1]; rfl
  have n1 : W1.cell? ⟨w.heap.size, 1, none⟩ = some (.int .i64 0) := by rw [cell_blk hn1]; rfl
  have n2 : W1.cell? ⟨w.heap.size, 2, none⟩ = some (.int .i64 0) := by rw [cell_blk hn1]; rfl
  have f0 := frozen_blk hn1 0
  have f1 := frozen_blk hn1 1
  have f2 := frozen_blk hn1 2
  go_wp2
  refine bodyPost_ret (v := .agg #[.int .i64 ((c.blocks : Int) - ((usedOf c.slots (toksOf L)).length + cntT tl L.length : Nat)), .int .i64 0, .int .i64 ((usedOf c.slots (toksOf L)).length + cntT tl L.length : Nat)]) ?_ rfl ⟨rfl, ((hB1.setCell (Nat.le_refl _) _).setCell (Nat.le_refl _) _).setCell (Nat.le_refl _) _⟩
  simp [results, Try.results12, go_sem, n0, n1, n2]

end Go.Proofs.Ytaidjhlijadmiaa

/-
  The reference's wrong, Tokens, Right, New.
-/
namespace Go.Proofs.Ytaidjhlijadmiaa
open Go.RowKit
attribute [local go_sem ↓] Go.wp_at_zero Go.wp_at_succ

def badTok (v : Nat) (x : Int) : Prop := x < 0 ∨ (v : Int) ≤ x

set_option maxRecDepth 100000 in
set_option maxHeartbeats 2000000 in
theorem refwrong_any (Y d n : Nat) (c : Cfg) (vt : Value) (f : Nat → Int) (w : World) (hY : w.cell? ⟨Y, 0, none⟩ = some (.pointer (some ⟨d, 0, none⟩))) (hd : w.cell? ⟨d, 5, none⟩ = some (.int .i64 c.vocab)) (ht : Ints w vt n f) :
    Calls Try.prog 64 #[.pointer (some ⟨Y, 0, none⟩), vt] w fun e w' =>
      (e = .returned (.bool true) ∧ (∃ j, j < n ∧ badTok c.vocab (f j)) ∨ e = .returned (.bool false) ∧ (∀ j, j < n → ¬ badTok c.vocab (f j))) ∧ ∃ q, w' = w.drewN q := by
  obtain ⟨aa, ca, rfl, ha1, ha2, ha3⟩ := ht
  unfold maxLen at ha2
  have Ha3 := hide ha3
  clear ha3
  go_enter Try.func64, Try.ntmps64
  go_wp2
  go_loopw [5] (fun i wr => ∃ k : Nat, k ≤ n ∧ i = .int .i64 k ∧ Hid (∀ j, j < k → ¬ badTok c.vocab (f j)) ∧ ∃ q, wr = w.drewN q) (fun i _ => n - (intOf i).toNat)
  case atStart => exact ⟨0, Nat.zero_le _, rfl, fun j hj => absurd hj (by omega), 0, rfl⟩
  case round =>
    obtain ⟨k, hk, rfl, Hne, q, rfl⟩ := hrel
    by_cases hlt : k < n
    · obtain ⟨b1, o1, rfl, hlb1, hc1⟩ := Ha3.out (by omega)
      have c1 := hc1 k hlt
      clear hc1
      generalize hx : f k = x at c1
      have Hx := hide hx
      clear hx
      by_cases h1 : x < 0
      · have hd1 : decide (x < 0) = true := by simpa using h1
        go_wp2
        go_quiet (fail)
        go_wp2
        go_ret
        exact ⟨.inl ⟨rfl, k, hlt, by rw [Hx.out]; exact .inl h1⟩, _, World.drewN_drewN _ _ _⟩
      · have hd1 : decide (x < 0) = false := by simpa using h1
        by_cases h2 : (c.vocab : Int) ≤ x
        · have hd2 : decide ((c.vocab : Int) ≤ x) = true := by simpa using h2
          go_wp2
          go_quiet (fail)
          go_wp2
          go_ret
          exact ⟨.inl ⟨rfl, k, hlt, by rw [Hx.out]; exact .inr h2⟩, _, World.drewN_drewN _ _ _⟩
        · have hd2 : decide ((c.vocab : Int) ≤ x) = false := by simpa using h2
          go_wp2
          go_quiet (fail)
          go_wp2
          go_roundw
          case rel =>
            refine ⟨k + 1, by omega, by go_num, fun j hj => ?_, _, rfl⟩
            by_cases e : j = k
            · subst e; rw [Hx.out]; unfold badTok; omega
            · exact Hne.out j (by omega)
          case measure => simp [intOf]; omega
    · go_wp2
      go_ret
      exact ⟨.inr ⟨rfl, fun j hj => Hne.out j (by omega)⟩, q, rfl⟩

set_option maxRecDepth 100000 in
set_option maxHeartbeats 1000000 in
theorem reftokens_any (Y d : Nat) (id : Int) (c : Cfg) (L : List (Int × List Nat)) (tl : Nat → Nat) (nt : Nat) (vL : Value) (w : World) (h : RefI w Y d c L tl nt vL) :
    Calls Try.prog 50 #[.pointer (some ⟨Y, 0, none⟩), .int .i64 id] w fun e w' =>
      (e = .returned (.tuple #[.slice none 0 0, .bool false]) ∧ (∀ i, i < L.length → idAt L i ≠ id) ∨ ∃ k v, e = .returned (.tuple #[v, .bool true]) ∧ k < L.length ∧ idAt L k = id ∧ (∀ j, j < k → idAt L j ≠ id) ∧ TokT w v (toksAt L k)) ∧ w' = w := by
  have y1 : w.cell? ⟨Y, 1, none⟩ = some vL := by rw [cell_blk h.obj]; rfl
  have hmany := h.many
  have hf := reffind_any Y id vL L tl w y1 h.seqs (by omega)
  obtain ⟨a, cap, rfl, hc1, hc2, hcells⟩ := h.seqs.cells
  have HC := hide hcells
  have Hf := hide hf
  clear hcells hf
  go_enter Try.func50, Try.ntmps50
  go_wp2_with fail
  refine Hf.out.mono ?_
  rintro e w1 ⟨⟨rfl, hno⟩ | ⟨k, rfl, hk, hid, hfirst⟩, rfl⟩
  · have Hno := hide hno
    clear hno
    go_wp2
    go_ret2
    exact ⟨.inl ⟨rfl, Hno.out⟩, rfl⟩
  · obtain ⟨g, rfl, hg, hcell⟩ := HC.out (by omega)
    obtain ⟨_, ⟨v, c1, hT⟩, _⟩ := hcell k hk
    have Hfi := hide hfirst
    have Hid := hide hid
    clear hcell hfirst hid
    go_wp2
    go_ret2
    exact ⟨.inr ⟨k, v, rfl, hk, Hid.out, Hfi.out, hT⟩, rfl⟩

end Go.Proofs.Ytaidjhlijadmiaa
