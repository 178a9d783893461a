import Derived.Deep.OwnRows
import Derived.Test.YtaidjhlijadmiaaP08

/-
  What the reference has seen: K and V, by layers and positions. Rows of slices that are appended to; vectors of integers.
-/
namespace Go.Proofs.Ytaidjhlijadmiaa
open Go.RowKit

/-- A vector whose block is known to be one of integers: blocks of other types are other blocks. -/
def IntsT (w : World) (v : Value) (n : Nat) (g : Nat → Int) : Prop :=
  ∃ a c, v = .slice a n c ∧ n ≤ c ∧ c ≤ maxLen ∧ (0 < n → ∃ b off cur fr, a = some ⟨b, off, none⟩ ∧ w.heap[b]? = some (.cells cur 3 fr) ∧ ∀ j, j < n → cur[off + j]? = some (.int .i64 (g j)))

theorem IntsT.ints {w : World} {v : Value} {n : Nat} {g : Nat → Int} (h : IntsT w v n g) : Ints w v n g := by
  obtain ⟨a, c, rfl, h1, h2, h3⟩ := h
  refine ⟨a, c, rfl, h1, h2, fun hn => ?_⟩
  obtain ⟨b, off, cur, fr, rfl, hb, hc⟩ := h3 hn
  exact ⟨b, off, rfl, lt_blk hb, fun j hj => by rw [cell_blk hb]; exact hc j hj⟩

theorem IntsT.congr {w : World} {v : Value} {n : Nat} {f g : Nat → Int} (h : IntsT w v n f) (e : ∀ j, j < n → f j = g j) : IntsT w v n g := by
  obtain ⟨a, c, rfl, h1, h2, h3⟩ := h
  refine ⟨a, c, rfl, h1, h2, fun hn => ?_⟩
  obtain ⟨b, off, cur, fr, rfl, hb, hc⟩ := h3 hn
  exact ⟨b, off, cur, fr, rfl, hb, fun j hj => by rw [hc j hj, e j hj]⟩

/-- All blocks of one element type are as they were. -/
def KeepT (e : TypeId) (w w' : World) : Prop := ∀ (k : Nat) (cur : Array Value) (fr : Nat × Nat), w.heap[k]? = some (Obj.cells cur e fr) → w'.heap[k]? = some (Obj.cells cur e fr)

theorem KeepT.trans {e : TypeId} {a b c : World} (h : KeepT e a b) (k : KeepT e b c) : KeepT e a c := fun i cur fr hi => k i cur fr (h i cur fr hi)

theorem KeepT.of_below {e : TypeId} {w w' : World} (h : Below w.heap.size w w') : KeepT e w w' := fun k cur fr hk => by
  rw [h.block k (lt_blk hk)]; exact hk

theorem IntsT.keep {w w' : World} {v : Value} {n : Nat} {g : Nat → Int} (h : IntsT w v n g) (hk : KeepT 3 w w') : IntsT w' v n g := by
  obtain ⟨a, c, rfl, h1, h2, h3⟩ := h
  refine ⟨a, c, rfl, h1, h2, fun hn => ?_⟩
  obtain ⟨b, off, cur, fr, rfl, hb, hc⟩ := h3 hn
  exact ⟨b, off, cur, fr, rfl, hk b cur fr hb, hc⟩

theorem IntsT.of_owns {w : World} {base : Nat} {v : Value} {n : Nat} {g : Nat → Int} (h : w.ownsRow base 3 1 v n ((List.range n).map fun j => .int .i64 (g j))) : IntsT w v n g := by
  obtain ⟨_, ⟨rfl, rfl⟩ | ⟨b, cap, cur, rfl, _, hb, hn, hm, hs, ht⟩⟩ := h
  · exact ⟨none, 0, rfl, Nat.le_refl _, by simp [maxLen], fun h => absurd h (by omega)⟩
  · refine ⟨_, cap, rfl, hn, hm, fun _ => ⟨b, 0, cur, (0, 0), rfl, hb, fun j hj => ?_⟩⟩
    have := congrArg (fun l => l[j]?) ht
    simp [hj] at this
    simpa using this

/-- A row that is grown by append turns no block of another type. -/
theorem KeepT.of_grown {e e' : TypeId} {w w' : World} {base size n : Nat} {v : Value} {xs : List Value} (hown : w.ownsRow base e' size v n xs) (hg : w.grownBy w' v.ownBlock) (hne : e ≠ e') : KeepT e w w' := by
  intro k cur fr hk
  by_cases hkr : some k = v.ownBlock
  · obtain ⟨_, ⟨rfl, _⟩ | ⟨b, cap, cur', rfl, _, hb, _⟩⟩ := hown
    · simp [Value.ownBlock] at hkr
    · simp [Value.ownBlock] at hkr
      subst hkr
      rw [hb] at hk
      injection hk with hk
      injection hk with _ he _
      exact absurd he.symm hne
  · rw [hg.block k (lt_blk hk) hkr]; exact hk

theorem KeepT.alloc {e : TypeId} (w : World) (o : Obj) : KeepT e w (w.alloc o) := fun k cur fr hk => by
  rw [alloc_old w o k (lt_blk hk)]; exact hk

theorem KeepT.drewN {e : TypeId} (w : World) (n : Nat) : KeepT e w (w.drewN n) := fun _ _ _ hk => hk

/-- A store into a block of another type. -/
theorem KeepT.setCell {e e' : TypeId} {w : World} {b i : Nat} {arr : Array Value} {fr' : Nat × Nat} (hb : w.heap[b]? = some (.cells arr e' fr')) (hne : e ≠ e') (v : Value) : KeepT e w (w.setCell ⟨b, i, none⟩ v) := by
  intro k cur fr hk
  by_cases hkb : k = b
  · subst hkb
    rw [hb] at hk
    injection hk with hk
    injection hk with _ he _
    exact absurd he.symm hne
  · rw [setCell_far w b i k v hkb]; exact hk

theorem below_of_drewN {w w1 : World} {k : Nat} (h : Below (w.drewN k).heap.size (w.drewN k) w1) : Below w.heap.size w w1 := ⟨h.os, h.tape, h.output, h.size, h.block⟩

theorem IntsT.drewN {w : World} {v : Value} {n : Nat} {g : Nat → Int} (h : IntsT w v n g) (k : Nat) : IntsT (w.drewN k) v n g := h

/-- What the reference has seen. Row 2 l: K of layer l; row 2 l + 1: V. -/
structure SeenI (B : Nat) (w : World) (s bK bV L m : Nat) (vX : Value) (rv : Nat → Value) (n : Nat → Nat) (xs : Nat → Nat → Value) (f : Nat → Nat → Nat → Int) : Prop where
  seen : w.heap[s]? = some (.cells #[.slice (some ⟨bK, 0, none⟩) L L, .slice (some ⟨bV, 0, none⟩) L L, vX] 110 (0, 0))
  keys : ∃ arr : Array Value, w.heap[bK]? = some (.cells arr 62 (0, 0)) ∧ arr.size = L ∧ ∀ l, l < L → arr[l]? = some (rv (2 * l))
  vals : ∃ arr : Array Value, w.heap[bV]? = some (.cells arr 62 (0, 0)) ∧ arr.size = L ∧ ∀ l, l < L → arr[l]? = some (rv (2 * l + 1))
  bs : B ≤ s
  bk : B ≤ bK
  bv : B ≤ bV
  ne : bK ≠ bV
  row : ∀ r, r < 2 * L → w.ownsRow B 36 1 (rv r) (n r) ((List.range (n r)).map (xs r))
  vec : ∀ r, r < 2 * L → ∀ t, t < n r → IntsT w (xs r t) m (f r t)
  apart : ∀ r r', r < 2 * L → r' < 2 * L → r ≠ r' → ∀ g, (rv r).ownBlock = some g → (rv r').ownBlock ≠ some g

section
variable {B : Nat} {w : World} {s bK bV L m : Nat} {vX : Value} {rv : Nat → Value} {n : Nat → Nat} {xs : Nat → Nat → Value} {f : Nat → Nat → Nat → Int}

/-- A world in which all its blocks are as they were. -/
theorem SeenI.below {w' : World} (h : SeenI B w s bK bV L m vX rv n xs f) (hb : Below w.heap.size w w') : SeenI B w' s bK bV L m vX rv n xs f := by
  have kk : ∀ k o, w.heap[k]? = some o → w'.heap[k]? = some o := fun k o hk => by rw [hb.block k (lt_blk hk)]; exact hk
  obtain ⟨a1, k1, k2, k3⟩ := h.keys
  obtain ⟨a2, v1, v2, v3⟩ := h.vals
  refine ⟨kk _ _ h.seen, ⟨a1, kk _ _ k1, k2, k3⟩, ⟨a2, kk _ _ v1, v2, v3⟩, h.bs, h.bk, h.bv, h.ne, fun r hr => ?_, fun r hr t ht => (h.vec r hr t ht).keep (KeepT.of_below hb), h.apart⟩
  obtain ⟨h1, h2 | ⟨g, cap, cur, e, hg, hh, rest⟩⟩ := h.row r hr
  · exact ⟨h1, .inl h2⟩
  · exact ⟨h1, .inr ⟨g, cap, cur, e, hg, kk _ _ hh, rest⟩⟩

theorem SeenI.drewN (h : SeenI B w s bK bV L m vX rv n xs f) (k : Nat) : SeenI B (w.drewN k) s bK bV L m vX rv n xs f :=
  ⟨h.seen, h.keys, h.vals, h.bs, h.bk, h.bv, h.ne, h.row, h.vec, h.apart⟩

theorem SeenI.keyRow (h : SeenI B w s bK bV L m vX rv n xs f) (hL : L ≤ 1000) : Row w (.slice (some ⟨bK, 0, none⟩) L L) L (fun l => rv (2 * l)) := by
  obtain ⟨a1, k1, k2, k3⟩ := h.keys
  refine ⟨_, L, rfl, Nat.le_refl _, by unfold maxLen; omega, fun _ => ⟨bK, 0, rfl, lt_blk k1, fun j hj => ?_⟩⟩
  rw [cell_blk k1]; simpa using k3 j hj

theorem SeenI.valRow (h : SeenI B w s bK bV L m vX rv n xs f) (hL : L ≤ 1000) : Row w (.slice (some ⟨bV, 0, none⟩) L L) L (fun l => rv (2 * l + 1)) := by
  obtain ⟨a1, k1, k2, k3⟩ := h.vals
  refine ⟨_, L, rfl, Nat.le_refl _, by unfold maxLen; omega, fun _ => ⟨bV, 0, rfl, lt_blk k1, fun j hj => ?_⟩⟩
  rw [cell_blk k1]; simpa using k3 j hj

/-- A block of another type is none of the rows'. -/
theorem SeenI.own_ne (h : SeenI B w s bK bV L m vX rv n xs f) (r : Nat) (hr : r < 2 * L) {k : Nat} {cur : Array Value} {e : TypeId} {fr : Nat × Nat} (hk : w.heap[k]? = some (Obj.cells cur e fr)) (hne : e ≠ 36) : some k ≠ (rv r).ownBlock := by
  intro hh
  obtain ⟨_, ⟨e', _⟩ | ⟨g, cap, cur', e', _, hg, _⟩⟩ := h.row r hr
  · rw [e'] at hh; simp [Value.ownBlock] at hh
  · rw [e'] at hh; simp [Value.ownBlock] at hh; subst hh
    rw [hg] at hk; injection hk with hk; injection hk with _ he _; exact hne he.symm

theorem SeenI.mat (h : SeenI B w s bK bV L m vX rv n xs f) (r : Nat) (hr : r < 2 * L) : Mat w (rv r) (n r) m (f r) :=
  ⟨xs r, Row.of_owns (h.row r hr), fun t ht => (h.vec r hr t ht).ints⟩

/-- One vector more in row r0: the row has been grown, its slice laid anew into the layer's place (of K: b = bK, or of V). -/
theorem SeenI.push {w1 : World} {r0 l0 b : Nat} {g cap : Nat} {x : Value} {y : Nat → Int} (h : SeenI B w s bK bV L m vX rv n xs f) (hr0 : r0 < 2 * L)
    (hb : b = bK ∧ r0 = 2 * l0 ∨ b = bV ∧ r0 = 2 * l0 + 1)
    (hown : w1.ownsRow B 36 1 (.slice (some ⟨g, 0, none⟩) (n r0 + 1) cap) (n r0 + 1) ((List.range (n r0)).map (xs r0) ++ [x])) (hgrow : w.grownBy w1 (rv r0).ownBlock) (hat : (rv r0).ownBlock = some g ∨ w.heap.size ≤ g)
    (hx : IntsT w x m y) :
    SeenI B (w1.setCell ⟨b, l0, none⟩ (.slice (some ⟨g, 0, none⟩) (n r0 + 1) cap)) s bK bV L m vX (fun r => if r = r0 then .slice (some ⟨g, 0, none⟩) (n r0 + 1) cap else rv r) (fun r => if r = r0 then n r0 + 1 else n r)
      (fun r t => if r = r0 ∧ t = n r0 then x else xs r t) (fun r t => if r = r0 ∧ t = n r0 then y else f r t) := by
  have ownT : ∀ r, r < 2 * L → ∀ k, (rv r).ownBlock = some k → ∃ cur, w.heap[k]? = some (Obj.cells cur 36 (0, 0)) := fun r hr k hk => by
    obtain ⟨_, ⟨e, _⟩ | ⟨g, cap, cur, e, _, hh, _⟩⟩ := h.row r hr
    · rw [e] at hk; simp [Value.ownBlock] at hk
    · rw [e] at hk; simp [Value.ownBlock] at hk; subst hk; exact ⟨cur, hh⟩
  have other : ∀ (k : Nat) (o : Obj), w.heap[k]? = some o → (rv r0).ownBlock ≠ some k → w1.heap[k]? = some o := fun k o hk hne => by
    rw [hgrow.block k (lt_blk hk) (fun e => hne e.symm)]; exact hk
  have othT : ∀ (k : Nat) (cur : Array Value) (e : TypeId) (fr : Nat × Nat), w.heap[k]? = some (Obj.cells cur e fr) → e ≠ 36 → w1.heap[k]? = some (Obj.cells cur e fr) := fun k cur e fr hk hne => by
    refine other k _ hk (fun hh => ?_)
    obtain ⟨cur', h'⟩ := ownT r0 hr0 k hh
    rw [hk] at h'; injection h' with h'; injection h' with _ he _; exact hne he
  obtain ⟨aK, k1, k2, k3⟩ := h.keys
  obtain ⟨aV, v1, v2, v3⟩ := h.vals
  have k1' := othT _ _ _ _ k1 (by decide)
  have v1' := othT _ _ _ _ v1 (by decide)
  have s1' := othT _ _ _ _ h.seen (by decide)
  have hbT : ∃ arr : Array Value, w1.heap[b]? = some (Obj.cells arr 62 (0, 0)) := by
    rcases hb with ⟨rfl, _⟩ | ⟨rfl, _⟩
    · exact ⟨_, k1'⟩
    · exact ⟨_, v1'⟩
  obtain ⟨ab, hbT⟩ := hbT
  have far : ∀ (k : Nat) (cur : Array Value) (e : TypeId) (fr : Nat × Nat), w1.heap[k]? = some (Obj.cells cur e fr) → e ≠ 62 →
      (w1.setCell ⟨b, l0, none⟩ (.slice (some ⟨g, 0, none⟩) (n r0 + 1) cap)).heap[k]? = some (Obj.cells cur e fr) := fun k cur e fr hk hne => by
    rw [setCell_far _ _ _ _ _ (fun e' => by subst e'; rw [hbT] at hk; injection hk with hk; injection hk with _ he _; exact hne he.symm)]; exact hk
  have kt : KeepT 3 w (w1.setCell ⟨b, l0, none⟩ (.slice (some ⟨g, 0, none⟩) (n r0 + 1) cap)) :=
    (KeepT.of_grown (h.row r0 hr0) hgrow (by decide)).trans (KeepT.setCell hbT (by decide) _)
  refine ⟨far _ _ _ _ s1' (by decide), ?_, ?_, h.bs, h.bk, h.bv, h.ne, fun r hr => ?_, fun r hr t ht => ?_, fun r r' hr hr' hne g' hg' => ?_⟩
  · rcases hb with ⟨rfl, er⟩ | ⟨rfl, er⟩
    · refine ⟨aK.setIfInBounds l0 (.slice (some ⟨g, 0, none⟩) (n r0 + 1) cap), setCell_blk k1' _ _, by simpa using k2, fun l hl => ?_⟩
      by_cases e : l = l0
      · subst e; subst er; simp [k2, hl]
      · rw [Array.getElem?_setIfInBounds_ne (by omega), if_neg (by omega)]; exact k3 l hl
    · refine ⟨aK, by rw [setCell_far _ _ _ _ _ h.ne]; exact k1', k2, fun l hl => ?_⟩
      rw [if_neg (by omega)]; exact k3 l hl
  · rcases hb with ⟨rfl, er⟩ | ⟨rfl, er⟩
    · refine ⟨aV, by rw [setCell_far _ _ _ _ _ h.ne.symm]; exact v1', v2, fun l hl => ?_⟩
      rw [if_neg (by omega)]; exact v3 l hl
    · refine ⟨aV.setIfInBounds l0 (.slice (some ⟨g, 0, none⟩) (n r0 + 1) cap), setCell_blk v1' _ _, by simpa using v2, fun l hl => ?_⟩
      by_cases e : l = l0
      · subst e; subst er; simp [v2, hl]
      · rw [Array.getElem?_setIfInBounds_ne (by omega), if_neg (by omega)]; exact v3 l hl
  · by_cases e : r = r0
    · subst e
      simp only [if_true, true_and]
      have e1 : (List.range (n r + 1)).map (fun t => if t = n r then x else xs r t) = (List.range (n r)).map (xs r) ++ [x] := by
        rw [range_map_succ, if_pos rfl]
        congr 1
        apply List.map_congr_left
        intro t ht
        rw [if_neg (by have := List.mem_range.1 ht; omega)]
      rw [e1]
      obtain ⟨q1, ⟨q2, _⟩ | ⟨g', cap', cur, q2, q3, q4, q5⟩⟩ := hown
      · cases q2
      · exact ⟨q1, .inr ⟨g', cap', cur, q2, q3, far _ _ _ _ q4 (by decide), q5⟩⟩
    · simp only [e, false_and, if_false]
      obtain ⟨q1, q2 | ⟨g', cap', cur, q2, q3, q4, q5⟩⟩ := h.row r hr
      · exact ⟨q1, .inl q2⟩
      · refine ⟨q1, .inr ⟨g', cap', cur, q2, q3, far _ _ _ _ (other _ _ q4 ?_) (by decide), q5⟩⟩
        exact fun hh => h.apart r r0 hr hr0 e g' (by rw [q2]; rfl) hh
  · by_cases e : r = r0 ∧ t = n r0
    · simp only [if_pos e]; exact hx.keep kt
    · simp only [if_neg e]
      refine (h.vec r hr t ?_).keep kt
      by_cases e1 : r = r0
      · subst e1; simp at ht e; omega
      · simp [e1] at ht; exact ht
  · by_cases e : r = r0
    · subst e
      simp only [if_true] at hg'
      rw [if_neg (fun e => hne e.symm)]
      simp [Value.ownBlock] at hg'
      subst hg'
      rcases hat with hat | hat
      · exact h.apart r r' hr hr' hne g hat
      · intro hh
        obtain ⟨cur, hc⟩ := ownT r' hr' g hh
        have := lt_blk hc; omega
    · rw [if_neg e] at hg'
      by_cases e' : r' = r0
      · subst e'
        rw [if_pos rfl]
        simp only [Value.ownBlock]
        intro hh
        injection hh with hh
        subst hh
        rcases hat with hat | hat
        · exact h.apart r r' hr hr' hne g hg' hat
        · obtain ⟨cur, hc⟩ := ownT r hr g hg'
          have := lt_blk hc; omega
      · rw [if_neg e']; exact h.apart r r' hr hr' hne g' hg'
end

end Go.Proofs.Ytaidjhlijadmiaa

/-
  Rows that are made at once and filled place by place.
-/
namespace Go.Proofs.Ytaidjhlijadmiaa
open Go.RowKit

/-- The first k places hold g, the others 0. -/
def filled (g : Nat → Int) (k j : Nat) : Int := if j < k then g j else 0

theorem fill_start (w : World) (n : Nat) (g : Nat → Int) : (w.alloc (.cells (madeCells #[.int .i64 0] n) 3)).rowIs w.heap.size 3 n (fun j => .int .i64 (filled g 0 j)) :=
  (World.rowIs_made w (.int .i64 0) n 3).congr (fun i _ => by simp [filled])

theorem fill_step {w : World} {b n k : Nat} {t : TypeId} {g : Nat → Int} (h : w.rowIs b t n (fun j => .int .i64 (filled g k j))) {x : Int} (hx : x = g k) :
    (w.setCell ⟨b, k, none⟩ (.int .i64 x)).rowIs b t n (fun j => .int .i64 (filled g (k + 1) j)) := by
  refine (h.set k (.int .i64 x)).congr (fun i _ => ?_)
  subst hx
  unfold filled
  by_cases e : i = k
  · subst e; simp
  · rw [if_neg e]
    by_cases h1 : i < k
    · rw [if_pos h1, if_pos (by omega)]
    · rw [if_neg h1, if_neg (by omega)]

theorem fill_done {w : World} {b n : Nat} {g : Nat → Int} (h : w.rowIs b 3 n (fun j => .int .i64 (filled g n j))) (hn : n ≤ maxLen) : IntsT w (.slice (some ⟨b, 0, none⟩) n n) n g := by
  obtain ⟨c, hb, hs, hc⟩ := h
  refine ⟨_, n, rfl, Nat.le_refl _, hn, fun _ => ⟨b, 0, c, (0, 0), rfl, hb, fun j hj => ?_⟩⟩
  have := hc j hj
  simp only [filled, if_pos hj] at this
  simpa using this

/-- What a vector gives the walk. -/
theorem IntsT.at {w : World} {v : Value} {n : Nat} {g : Nat → Int} (h : IntsT w v n g) : ∃ a c, v = .slice a n c ∧ n ≤ c ∧ (0 < n → ∃ b off, a = some ⟨b, off, none⟩ ∧ b < w.heap.size ∧ ∀ j, j < n → w.cell? ⟨b, off + j, none⟩ = some (.int .i64 (g j))) := by
  obtain ⟨a, c, rfl, h1, _, h3⟩ := h.ints
  exact ⟨a, c, rfl, h1, h3⟩

end Go.Proofs.Ytaidjhlijadmiaa
