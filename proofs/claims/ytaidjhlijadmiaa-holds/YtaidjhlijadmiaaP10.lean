import Derived.Test.YtaidjhlijadmiaaP09

/-
  A slice of integers that a call has made, and that is written into.
-/
namespace Go.Proofs.Ytaidjhlijadmiaa
open Go.RowKit

def OwnI (base : Nat) (w : World) (b cap n : Nat) (g : Nat → Int) : Prop :=
  ∃ cur : Array Value, base ≤ b ∧ w.heap[b]? = some (.cells cur 3 (0, 0)) ∧ n ≤ cap ∧ cap ≤ maxLen ∧ cur.size = cap ∧ ∀ j, j < n → cur[j]? = some (.int .i64 (g j))

section
variable {base : Nat} {w w' : World} {b cap n : Nat} {g : Nat → Int}

theorem OwnI.of_owns {v : Value} (h : w.ownsRow base 3 1 v n ((List.range n).map fun j => .int .i64 (g j))) : (v = .slice none 0 0 ∧ n = 0) ∨ ∃ b cap, v = .slice (some ⟨b, 0, none⟩) n cap ∧ OwnI base w b cap n g := by
  obtain ⟨_, h | ⟨b, cap, cur, rfl, hb, hg, hn, hm, hs, ht⟩⟩ := h
  · exact .inl h
  · refine .inr ⟨b, cap, rfl, cur, hb, hg, hn, hm, by omega, fun j hj => ?_⟩
    have := congrArg (fun l => l[j]?) ht
    simp [hj] at this
    simpa using this

theorem OwnI.owns (h : OwnI base w b cap n g) : w.ownsRow base 3 1 (.slice (some ⟨b, 0, none⟩) n cap) n ((List.range n).map fun j => .int .i64 (g j)) := by
  obtain ⟨cur, h1, h2, h3, h4, h5, h6⟩ := h
  refine ⟨by simp, .inr ⟨b, cap, cur, rfl, h1, h2, h3, h4, by omega, ?_⟩⟩
  apply List.ext_getElem?
  intro i
  by_cases hi : i < n
  · rw [List.getElem?_take_of_lt (by omega)]
    have := h6 i hi
    simp [hi]
    simpa using this
  · rw [List.getElem?_eq_none (by simp; omega), List.getElem?_eq_none (by simp; omega)]

theorem OwnI.ints (h : OwnI base w b cap n g) : IntsT w (.slice (some ⟨b, 0, none⟩) n cap) n g := by
  obtain ⟨cur, h1, h2, h3, h4, h5, h6⟩ := h
  exact ⟨_, cap, rfl, h3, h4, fun _ => ⟨b, 0, cur, (0, 0), rfl, h2, fun j hj => by simpa using h6 j hj⟩⟩

theorem OwnI.set (h : OwnI base w b cap n g) (k : Nat) (x : Int) : OwnI base (w.setCell ⟨b, k, none⟩ (.int .i64 x)) b cap n (fun j => if j = k then x else g j) := by
  obtain ⟨cur, h1, h2, h3, h4, h5, h6⟩ := h
  refine ⟨cur.setIfInBounds k (.int .i64 x), h1, setCell_blk h2 _ _, h3, h4, by simpa using h5, fun j hj => ?_⟩
  by_cases e : j = k
  · subst e; simp [show j < cur.size by omega]
  · rw [Array.getElem?_setIfInBounds_ne (by omega)]; simp only [if_neg e]; exact h6 j hj

theorem OwnI.congr {g' : Nat → Int} (h : OwnI base w b cap n g) (e : ∀ j, j < n → g j = g' j) : OwnI base w b cap n g' := by
  obtain ⟨cur, h1, h2, h3, h4, h5, h6⟩ := h
  exact ⟨cur, h1, h2, h3, h4, h5, fun j hj => by rw [h6 j hj, e j hj]⟩

theorem OwnI.cell (h : OwnI base w b cap n g) (j : Nat) (hj : j < n) : w.cell? ⟨b, j, none⟩ = some (.int .i64 (g j)) := by
  obtain ⟨cur, h1, h2, h3, h4, h5, h6⟩ := h
  rw [cell_blk h2]; exact h6 j hj

theorem OwnI.frozen (h : OwnI base w b cap n g) (j : Nat) : w.frozen? ⟨b, j, none⟩ = false := by
  obtain ⟨cur, h1, h2, _⟩ := h
  exact frozen_blk h2 j

theorem OwnI.mono {base' : Nat} (h : OwnI base w b cap n g) (hb : base' ≤ base) : OwnI base' w b cap n g := by
  obtain ⟨cur, h1, r⟩ := h
  exact ⟨cur, Nat.le_trans hb h1, r⟩

theorem OwnI.lt (h : OwnI base w b cap n g) : b < w.heap.size := by
  obtain ⟨cur, h1, h2, _⟩ := h
  exact lt_blk h2

theorem OwnI.ge (h : OwnI base w b cap n g) : base ≤ b := by
  obtain ⟨cur, h1, h2, _⟩ := h
  exact h1
end

end Go.Proofs.Ytaidjhlijadmiaa

/-
  What the reference has seen: more on it.
-/
namespace Go.Proofs.Ytaidjhlijadmiaa
open Go.RowKit

section
variable {B : Nat} {w : World} {s bK bV L m : Nat} {vX : Value} {rv : Nat → Value} {n n' : Nat → Nat} {xs : Nat → Nat → Value} {f f' : Nat → Nat → Nat → Int}

theorem SeenI.congr (h : SeenI B w s bK bV L m vX rv n xs f) (hn : ∀ r, r < 2 * L → n r = n' r) (hf : ∀ r, r < 2 * L → ∀ t, t < n r → f r t = f' r t) : SeenI B w s bK bV L m vX rv n' xs f' :=
  ⟨h.seen, h.keys, h.vals, h.bs, h.bk, h.bv, h.ne, fun r hr => by rw [← hn r hr]; exact h.row r hr, fun r hr t ht => by rw [← hn r hr] at ht; rw [← hf r hr t ht]; exact h.vec r hr t ht, h.apart⟩

/-- 's.X = x'. -/
theorem SeenI.setX (h : SeenI B w s bK bV L m vX rv n xs f) (x : Value) : SeenI B (w.setCell ⟨s, 2, none⟩ x) s bK bV L m x rv n xs f ∧ KeepT 3 w (w.setCell ⟨s, 2, none⟩ x) := by
  obtain ⟨aK, k1, k2, k3⟩ := h.keys
  obtain ⟨aV, v1, v2, v3⟩ := h.vals
  have far : ∀ (k : Nat) (cur : Array Value) (e : TypeId) (fr : Nat × Nat), w.heap[k]? = some (Obj.cells cur e fr) → e ≠ 110 → (w.setCell ⟨s, 2, none⟩ x).heap[k]? = some (Obj.cells cur e fr) := fun k cur e fr hk hne => by
    rw [setCell_far _ _ _ _ _ (fun e' => by subst e'; rw [h.seen] at hk; injection hk with hk; injection hk with _ he _; exact hne he.symm)]; exact hk
  have kt : KeepT 3 w (w.setCell ⟨s, 2, none⟩ x) := KeepT.setCell h.seen (by decide) _
  refine ⟨⟨?_, ⟨aK, far _ _ _ _ k1 (by decide), k2, k3⟩, ⟨aV, far _ _ _ _ v1 (by decide), v2, v3⟩, h.bs, h.bk, h.bv, h.ne, fun r hr => ?_, fun r hr t ht => (h.vec r hr t ht).keep kt, h.apart⟩, kt⟩
  · rw [setCell_blk h.seen]; rfl
  · obtain ⟨q1, q2 | ⟨g', cap', cur, q2, q3, q4, q5⟩⟩ := h.row r hr
    · exact ⟨q1, .inl q2⟩
    · exact ⟨q1, .inr ⟨g', cap', cur, q2, q3, far _ _ _ _ q4 (by decide), q5⟩⟩
end

end Go.Proofs.Ytaidjhlijadmiaa
