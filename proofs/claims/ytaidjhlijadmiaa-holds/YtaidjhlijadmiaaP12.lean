import Derived.Test.YtaidjhlijadmiaaP10
import Derived.Test.YtaidjhlijadmiaaP11

/-
  Lists of tokens behind slices; lists of such lists.
-/
namespace Go.Proofs.Ytaidjhlijadmiaa
open Go.RowKit

def tkN (T : List Nat) (j : Nat) : Nat := T.getD j 0
def tkI (T : List Nat) (j : Nat) : Int := (tkN T j : Int)

/-- A slice that holds these tokens. -/
def TokT (w : World) (v : Value) (T : List Nat) : Prop := IntsT w v T.length (tkI T)

theorem tkN_eq {T U : List Nat} (h : T.length = U.length) (e : ∀ j, j < T.length → tkN T j = tkN U j) : T = U := by
  apply List.ext_getElem h
  intro i h1 h2
  have := e i h1
  unfold tkN at this
  simpa [List.getD_eq_getElem?_getD, h1, h2] using this

theorem sameI_tk (T U : List Nat) : sameI T.length U.length (tkI T) (tkI U) = decide (T = U) := by
  by_cases h : T = U
  · subst h
    have : sameTo (tkI T) (tkI T) T.length = true := (sameTo_iff _ _ _).2 (fun _ _ => rfl)
    simp [sameI, this]
  · rw [decide_eq_false h]
    cases e : sameI T.length U.length (tkI T) (tkI U) with
    | false => rfl
    | true =>
      unfold sameI at e
      simp only [Bool.and_eq_true, beq_iff_eq] at e
      exact absurd (tkN_eq e.1 (fun j hj => by have := (sameTo_iff _ _ _).1 e.2 j hj; unfold tkI at this; omega)) h

theorem tkN_take (T : List Nat) (k j : Nat) (h : j < k) : tkN (T.take k) j = tkN T j := by
  unfold tkN; simp [List.getD_eq_getElem?_getD, h]

theorem TokT.keep {w w' : World} {v : Value} {T : List Nat} (h : TokT w v T) (hk : KeepT 3 w w') : TokT w' v T := IntsT.keep h hk

theorem TokT.slice {w : World} {v : Value} {T : List Nat} (h : TokT w v T) : ∃ a c, v = .slice a T.length c ∧ T.length ≤ c ∧ c ≤ maxLen := by
  obtain ⟨a, c, e, h1, h2, _⟩ := h
  exact ⟨a, c, e, h1, h2⟩

/-- The first k of them. -/
theorem TokT.take {w : World} {a : Option Addr} {n c : Nat} {T : List Nat} (h : TokT w (.slice a n c) T) (k : Nat) (hk : k ≤ T.length) : TokT w (.slice a k c) (T.take k) := by
  obtain ⟨a', c', e, h1, h2, h3⟩ := h
  injection e with e1 e2 e3
  subst e1 e2 e3
  have hl : (T.take k).length = k := by simp; omega
  unfold TokT
  rw [hl]
  refine ⟨a, c, rfl, by omega, h2, fun h0 => ?_⟩
  obtain ⟨b, off, cur, fr, ea, hb, hc⟩ := h3 (by omega)
  exact ⟨b, off, cur, fr, ea, hb, fun j hj => by rw [hc j (by omega)]; unfold tkI; rw [tkN_take T k j hj]⟩

/-- A slice of such slices. -/
def TokRow (w : World) (v : Value) (l : List (List Nat)) : Prop := ∃ vs, Row w v l.length vs ∧ ∀ i, i < l.length → TokT w (vs i) (l.getD i [])

/-- .. that a call has made. -/
def OwnToks (base : Nat) (w : World) (v : Value) (l : List (List Nat)) : Prop := ∃ vs, w.ownsRow base 36 1 v l.length ((List.range l.length).map vs) ∧ ∀ i, i < l.length → TokT w (vs i) (l.getD i [])

theorem OwnToks.row {base : Nat} {w : World} {v : Value} {l : List (List Nat)} (h : OwnToks base w v l) : TokRow w v l := by
  obtain ⟨vs, h1, h2⟩ := h
  exact ⟨vs, Row.of_owns h1, h2⟩

theorem OwnToks.nil (base : Nat) (w : World) : OwnToks base w (.slice none 0 0) [] := ⟨fun _ => undef, World.ownsRow_nil _ _ _ _, fun i hi => absurd hi (by simp)⟩

theorem TokRow.nil (w : World) : TokRow w (.slice none 0 0) [] := (OwnToks.nil 0 w).row

theorem TokRow.below {w w' : World} {v : Value} {l : List (List Nat)} (h : TokRow w v l) (hb : Below w.heap.size w w') : TokRow w' v l := by
  obtain ⟨vs, h1, h2⟩ := h
  exact ⟨vs, h1.below hb, fun i hi => (h2 i hi).keep (KeepT.of_below hb)⟩

theorem owns_below' {w w' : World} {base : Nat} {e : TypeId} {size : Nat} {v : Value} {n : Nat} {xs : List Value} (h : w.ownsRow base e size v n xs) (hb : Below w.heap.size w w') : w'.ownsRow base e size v n xs := by
  obtain ⟨h1, h2 | ⟨g, cap, cur, e', hg, hh, rest⟩⟩ := h
  · exact ⟨h1, .inl h2⟩
  · exact ⟨h1, .inr ⟨g, cap, cur, e', hg, by rw [hb.block g (lt_blk hh)]; exact hh, rest⟩⟩

theorem OwnToks.below {base : Nat} {w w' : World} {v : Value} {l : List (List Nat)} (h : OwnToks base w v l) (hb : Below w.heap.size w w') : OwnToks base w' v l := by
  obtain ⟨vs, h1, h2⟩ := h
  exact ⟨vs, owns_below' h1 hb, fun i hi => (h2 i hi).keep (KeepT.of_below hb)⟩

theorem OwnToks.len {base : Nat} {w : World} {v : Value} {l : List (List Nat)} (h : OwnToks base w v l) : ∃ a c, v = .slice a l.length c := by
  obtain ⟨vs, ⟨_, ⟨rfl, e⟩ | ⟨g, cap, cur, rfl, _⟩⟩, _⟩ := h
  · exact ⟨none, 0, by rw [e]⟩
  · exact ⟨_, cap, rfl⟩

/-- One more. -/
theorem OwnToks.push {base : Nat} {w w' : World} {v v' x : Value} {l : List (List Nat)} {T : List Nat} (_h : OwnToks base w v l) (vs : Nat → Value) (hvs : ∀ i, i < l.length → TokT w (vs i) (l.getD i []))
    (hown : w'.ownsRow base 36 1 v' (l.length + 1) ((List.range l.length).map vs ++ [x])) (hk : KeepT 3 w w') (hx : TokT w x T) : OwnToks base w' v' (l ++ [T]) := by
  refine ⟨fun i => if i = l.length then x else vs i, ?_, fun i hi => ?_⟩
  · have e : (List.range (l ++ [T]).length).map (fun i => if i = l.length then x else vs i) = (List.range l.length).map vs ++ [x] := by
      rw [List.length_append, List.length_singleton, range_map_succ, if_pos rfl]
      congr 1
      apply List.map_congr_left
      intro i hi
      rw [if_neg (by have := List.mem_range.1 hi; omega)]
    rw [e, List.length_append, List.length_singleton]
    exact hown
  · by_cases e : i = l.length
    · subst e
      simp only [if_true]
      rw [List.getD_eq_getElem?_getD]
      simp
      exact hx.keep hk
    · simp only [if_neg e]
      simp at hi
      have e2 : (l ++ [T]).getD i [] = l.getD i [] := by
        rw [List.getD_eq_getElem?_getD, List.getD_eq_getElem?_getD, List.getElem?_append_left (by omega)]
      rw [e2]
      exact (hvs i (by omega)).keep hk

/-- The beginnings that tokens' whole blocks have. -/
def wholesOf (s : Nat) (T : List Nat) : List (List Nat) := (List.range (T.length / s)).map fun i => T.take ((i + 1) * s)

/-- Put behind a list, unless it is there. -/
def addTo (out : List (List Nat)) (b : List Nat) : List (List Nat) := if b ∈ out then out else out ++ [b]

def addAll (out : List (List Nat)) (bs : List (List Nat)) : List (List Nat) := bs.foldl addTo out

/-- The beginnings that are in use, each once. -/
def usedOf (s : Nat) (Ts : List (List Nat)) : List (List Nat) := Ts.foldl (fun out T => addAll out (wholesOf s T)) []

theorem addAll_snoc (out bs : List (List Nat)) (b : List Nat) : addAll out (bs ++ [b]) = addTo (addAll out bs) b := by unfold addAll; rw [List.foldl_append]; rfl

theorem usedOf_snoc (s : Nat) (Ts : List (List Nat)) (T : List Nat) : usedOf s (Ts ++ [T]) = addAll (usedOf s Ts) (wholesOf s T) := by unfold usedOf; rw [List.foldl_append]; rfl

theorem wholesOf_len (s : Nat) (T : List Nat) : (wholesOf s T).length = T.length / s := by unfold wholesOf; simp

theorem addTo_len (out : List (List Nat)) (b : List Nat) : (addTo out b).length ≤ out.length + 1 := by unfold addTo; split <;> simp

theorem addAll_len (out bs : List (List Nat)) : (addAll out bs).length ≤ out.length + bs.length := by
  induction bs generalizing out with
  | nil => simp [addAll]
  | cons b bs ih =>
    show (addAll (addTo out b) bs).length ≤ _
    have := ih (addTo out b)
    have := addTo_len out b
    simp; omega

theorem take_snoc' {α : Type} (l : List α) (d : α) (k : Nat) (h : k < l.length) : l.take (k + 1) = l.take k ++ [l.getD k d] := by
  rw [List.take_succ_eq_append_getElem h, List.getD_eq_getElem?_getD]
  simp [h]

theorem usedOf_len (s : Nat) (Ts : List (List Nat)) (m : Nat) (h : ∀ T ∈ Ts, (wholesOf s T).length ≤ m) : (usedOf s Ts).length ≤ Ts.length * m := by
  unfold usedOf
  have go : ∀ (Ts : List (List Nat)) (out : List (List Nat)), (∀ T ∈ Ts, (wholesOf s T).length ≤ m) → (Ts.foldl (fun out T => addAll out (wholesOf s T)) out).length ≤ out.length + Ts.length * m := by
    intro Ts
    induction Ts with
    | nil => intro out _; simp
    | cons T Ts ih =>
      intro out hh
      have h1 := ih (addAll out (wholesOf s T)) (fun U hU => hh U (by simp [hU]))
      have h2 := addAll_len out (wholesOf s T)
      have h3 := hh T (by simp)
      simp only [List.foldl_cons, List.length_cons]
      rw [Nat.add_mul]; omega
  have := go Ts [] h
  simpa using this

end Go.Proofs.Ytaidjhlijadmiaa

/-
  What a call may change: blocks of a set, and new ones.
-/
namespace Go.Proofs.Ytaidjhlijadmiaa
open Go.RowKit

structure Only (F : Nat → Prop) (w w' : World) : Prop where
  os : w'.os = w.os
  tape : w'.tape = w.tape
  output : w'.output = w.output
  size : w.heap.size ≤ w'.heap.size
  block : ∀ k, k < w.heap.size → ¬ F k → w'.heap[k]? = w.heap[k]?

section
variable {F F' : Nat → Prop} {w w' w'' : World}

theorem Only.refl (F : Nat → Prop) (w : World) : Only F w w := ⟨rfl, rfl, rfl, Nat.le_refl _, fun _ _ _ => rfl⟩

theorem Only.mono (h : Only F w w') (hm : ∀ k, k < w.heap.size → F k → F' k) : Only F' w w' :=
  ⟨h.os, h.tape, h.output, h.size, fun k hk hn => h.block k hk (fun hf => hn (hm k hk hf))⟩

theorem Only.trans (h : Only F w w') (h' : Only F' w' w'') (hm : ∀ k, k < w.heap.size → F' k → F k) : Only F w w'' :=
  ⟨h'.os.trans h.os, h'.tape.trans h.tape, h'.output.trans h.output, Nat.le_trans h.size h'.size, fun k hk hn =>
    (h'.block k (Nat.lt_of_lt_of_le hk h.size) (fun hf => hn (hm k hk hf))).trans (h.block k hk hn)⟩

theorem Only.of_below (h : Below w.heap.size w w') (F : Nat → Prop) : Only F w w' := ⟨h.os, h.tape, h.output, h.size, fun k hk _ => h.block k hk⟩

theorem Only.below {W : World} (h : Only F w w') (hb : Below W.heap.size W w) (hF : ∀ k, F k → W.heap.size ≤ k) : Below W.heap.size W w' :=
  hb.trans ⟨h.os, h.tape, h.output, h.size, fun k hk => h.block k (Nat.lt_of_lt_of_le hk hb.size) (fun hf => by have := hF k hf; omega)⟩

theorem Only.setCell (h : Only F w w') {p : Addr} (hp : p.block < w.heap.size → F p.block) (v : Value) : Only F w (w'.setCell p v) :=
  ⟨h.os, h.tape, h.output, by simpa [World.setCell] using h.size, fun k hk hn => by
    rw [Below.heap_setCell _ _ _ _ (fun e => hn (by subst e; exact hp hk))]; exact h.block k hk hn⟩

theorem Only.alloc (h : Only F w w') (o : Obj) : Only F w (w'.alloc o) :=
  ⟨h.os, h.tape, h.output, by have := h.size; simp; omega, fun k hk hn => by
    rw [alloc_old _ _ _ (Nat.lt_of_lt_of_le hk h.size)]; exact h.block k hk hn⟩

theorem Only.drewN (h : Only F w w') (q : Nat) : Only F w (w'.drewN q) := ⟨h.os, h.tape, h.output, h.size, h.block⟩

theorem Only.grown {r : Option Nat} (h : Only F w w') (hg : w'.grownBy w'' r) (hr : ∀ g, r = some g → g < w.heap.size → F g) : Only F w w'' :=
  ⟨hg.os.trans h.os, hg.tape.trans h.tape, hg.output.trans h.output, Nat.le_trans h.size hg.size, fun k hk hn =>
    (hg.block k (Nat.lt_of_lt_of_le hk h.size) (fun e => hn (hr k e.symm hk))).trans (h.block k hk hn)⟩

/-- Blocks of a type that none of the set's has are as they were. -/
theorem Only.keep {e : TypeId} (h : Only F w w') (hF : ∀ k cur fr, F k → w.heap[k]? ≠ some (.cells cur e fr)) : KeepT e w w' := fun k cur fr hk => by
  rw [h.block k (lt_blk hk) (fun hf => hF k cur fr hf hk)]; exact hk
end

end Go.Proofs.Ytaidjhlijadmiaa
