import Derived.Test.YtaidjhlijadmiaaP40

/-
  The statements' puts: Create on both sides.
-/
namespace Go.Proofs.Ytaidjhlijadmiaa
open Go.RowKit
attribute [local go_sem ↓] Go.wp_at_zero Go.wp_at_succ

/-- A list that was handed in: its memory lies below B0. -/
def ArgI (B0 : Nat) (w : World) (v : Value) (n : Nat) (f : Nat → Int) : Prop :=
  (v = .slice none 0 0 ∧ n = 0) ∨ ∃ (a : Addr) (cap : Nat), v = .slice (some a) n cap ∧ n ≤ cap ∧ cap ≤ maxLen ∧ n * 8 ≤ 140737488351232 ∧ ∀ j, j < n → a.spot = none ∧ a.block < B0 ∧ w.cell? ⟨a.block, a.off + j, none⟩ = some (.int .i64 (f j))

theorem ArgI.ints {B0 : Nat} {w : World} {v : Value} {n : Nat} {f : Nat → Int} (h : ArgI B0 w v n f) (hB : B0 ≤ w.heap.size) : Ints w v n f := by
  rcases h with ⟨rfl, rfl⟩ | ⟨a, cap, rfl, h1, h2, h3, h4⟩
  · exact ⟨none, 0, rfl, by omega, by simp [maxLen], fun h => absurd h (by omega)⟩
  · refine ⟨some a, cap, rfl, h1, h2, fun hn => ?_⟩
    obtain ⟨q1, q2, _⟩ := h4 0 hn
    obtain ⟨b, off, sp⟩ := a
    simp only at q1 q2 h4
    subst q1
    exact ⟨b, off, rfl, by omega, fun j hj => (h4 j hj).2.2⟩

theorem ArgI.keep {B0 : Nat} {w w' : World} {v : Value} {n : Nat} {f : Nat → Int} (h : ArgI B0 w v n f) (hk : ∀ k, k < B0 → w'.heap[k]? = w.heap[k]?) : ArgI B0 w' v n f := by
  rcases h with h | ⟨a, cap, e, h1, h2, h3, h4⟩
  · exact .inl h
  · refine .inr ⟨a, cap, e, h1, h2, h3, fun j hj => ?_⟩
    obtain ⟨q1, q2, q3⟩ := h4 j hj
    exact ⟨q1, q2, (World.cell?_of_block (w := w) (a := ⟨a.block, a.off + j, none⟩) (hk _ q2)).trans q3⟩

theorem ArgI.slice {B0 : Nat} {w : World} {v : Value} {n : Nat} {f : Nat → Int} (h : ArgI B0 w v n f) : ∃ a cap, v = .slice a n cap := by
  rcases h with ⟨rfl, rfl⟩ | ⟨a, cap, rfl, _⟩
  · exact ⟨_, _, rfl⟩
  · exact ⟨_, _, rfl⟩

/-- A list, and its copy with eight behind it. -/
def RoomI (base : Nat) (w : World) (r v : Value) (n : Nat) (f : Nat → Int) : Prop :=
  (v = .slice none 0 0 ∧ n = 0 ∧ r = .slice none 0 0) ∨ ∃ g c a cap, v = .slice (some a) n cap ∧ r = .slice (some ⟨g, 0, none⟩) n c ∧ w.ownsRow base 3 1 (.slice (some ⟨g, 0, none⟩) (n + 8) c) (n + 8) ((List.range (n + 8)).map fun j => .int .i64 (marked n f j))

theorem RoomI.slice {base : Nat} {w : World} {r v : Value} {n : Nat} {f : Nat → Int} (h : RoomI base w r v n f) : ∃ a cap, r = .slice a n cap := by
  rcases h with ⟨_, rfl, rfl⟩ | ⟨g, c, a, cap, _, rfl, _⟩
  · exact ⟨_, _, rfl⟩
  · exact ⟨_, _, rfl⟩

theorem RoomI.ints {base : Nat} {w : World} {r v : Value} {n : Nat} {f : Nat → Int} (h : RoomI base w r v n f) : IntsT w r n f := by
  rcases h with ⟨_, rfl, rfl⟩ | ⟨g, c, a, cap, _, rfl, h⟩
  · exact ⟨none, 0, rfl, by omega, by simp [maxLen], fun h => absurd h (by omega)⟩
  · have q := (IntsT.of_owns h).sub 0 n (by omega)
    simp only [Nat.add_zero, Nat.sub_zero, Nat.zero_add] at q
    exact q.congr (fun j hj => by unfold marked; rw [if_pos hj])

theorem RoomI.keep {base : Nat} {w w' : World} {r v : Value} {n : Nat} {f : Nat → Int} (h : RoomI base w r v n f) (hk : KeepT 3 w w') : RoomI base w' r v n f := by
  rcases h with h | ⟨g, c, a, cap, h1, h2, h3⟩
  · exact .inl h
  · exact .inr ⟨g, c, a, cap, h1, h2, owns_keepT h3 hk⟩

theorem roomy_all (B0 : Nat) (v : Value) (n : Nat) (f : Nat → Int) (w : World) (h : ArgI B0 w v n f) (hB : B0 ≤ w.heap.size) :
    Calls Try.prog 42 #[v] w fun e w' => ∃ r, e = .returned r ∧ RoomI w.heap.size w' r v n f ∧ Below w.heap.size w w' := by
  rcases h with ⟨rfl, rfl⟩ | ⟨a, cap, rfl, h1, h2, h3, h4⟩
  · refine (roomy_nil w).mono ?_
    rintro e w' ⟨rfl, rfl⟩
    exact ⟨_, rfl, .inl ⟨rfl, rfl, rfl⟩, Below.refl _ _⟩
  · refine (roomy_any n cap a f w (fun j hj => ?_) h3).mono ?_
    · obtain ⟨q1, q2, q3⟩ := h4 j hj
      obtain ⟨b, off, sp⟩ := a
      simp only at q1 q3
      subst q1
      have e : (⟨b, off, none⟩ : Addr).add j = ⟨b, off + j, none⟩ := by unfold Addr.add; split <;> simp_all
      rw [e]; exact q3
    · rintro e w' ⟨g, c, rfl, q1, q2⟩
      exact ⟨_, rfl, .inr ⟨g, c, a, cap, rfl, rfl, q1⟩, q2⟩

theorem kept_all (B0 base : Nat) (r v : Value) (n : Nat) (f : Nat → Int) (w : World) (h : ArgI B0 w v n f) (hr : RoomI base w r v n f) :
    Calls Try.prog 46 #[r, v] w fun e w' => e = .returned (.bool true) ∧ w' = w := by
  rcases h with ⟨rfl, rfl⟩ | ⟨a, cap, rfl, h1, h2, h3, h4⟩
  · rcases hr with ⟨_, _, rfl⟩ | ⟨g, c, a, cap, e, _⟩
    · exact kept_nil w
    · cases e
  · rcases hr with ⟨e, _⟩ | ⟨g, c, a', cap', e, rfl, q⟩
    · cases e
    · exact kept_any n g c cap a f w (IntsT.of_owns q) (fun j hj => ⟨(h4 j hj).1, (h4 j hj).2.2⟩) h3 (owns_cap q).1

/-- What Create answers. -/
def codeOf (c : Cfg) (id : Int) (n : Nat) (f : Nat → Int) (L : List (Int × List Nat)) (nt : Nat) : Nat :=
  if (List.range L.length).any (fun i => idAt L i == id) = true then 2 else if 8 ≤ L.length ∨ n = 0 then 1 else if (List.range n).any (fun j => decide (f j < 0 ∨ (c.vocab : Int) ≤ f j)) = true then 4 else if 40 < n then 5 else
    if c.blocks < needOf c.slots (usedOf c.slots (toksOf L)) (natsOf n f) + ((usedOf c.slots (toksOf L)).length + nt) then 6 else 0

theorem any_id (L : List (Int × List Nat)) (id : Int) : (List.range L.length).any (fun i => idAt L i == id) = true ↔ ∃ i, i < L.length ∧ idAt L i = id := by
  simp [List.any_eq_true]

theorem any_bad (v n : Nat) (f : Nat → Int) : (List.range n).any (fun j => decide (f j < 0 ∨ (v : Int) ≤ f j)) = true ↔ ∃ j, j < n ∧ badTok v (f j) := by
  simp [List.any_eq_true, badTok]

theorem codeOf_no {c : Cfg} {id : Int} {n : Nat} {f : Nat → Int} {L : List (Int × List Nat)} {nt code : Nat}
    (h : (∃ i, i < L.length ∧ idAt L i = id) ∧ code = 2 ∨ (∀ i, i < L.length → idAt L i ≠ id) ∧ ((8 ≤ L.length ∨ n = 0) ∧ code = 1 ∨ ¬ (8 ≤ L.length ∨ n = 0) ∧ ((∃ j, j < n ∧ badTok c.vocab (f j)) ∧ code = 4 ∨ (∀ j, j < n → ¬ badTok c.vocab (f j)) ∧ (40 < n ∧ code = 5 ∨
         n ≤ 40 ∧ c.blocks < needOf c.slots (usedOf c.slots (toksOf L)) (natsOf n f) + ((usedOf c.slots (toksOf L)).length + nt) ∧ code = 6)))) : code = codeOf c id n f L nt := by
  unfold codeOf
  rcases h with ⟨h, rfl⟩ | ⟨h1, ⟨h, rfl⟩ | ⟨h2, ⟨h, rfl⟩ | ⟨h3, ⟨h, rfl⟩ | ⟨h4, h, rfl⟩⟩⟩⟩
  · rw [if_pos ((any_id L id).2 h)]
  · rw [if_neg (fun hh => by obtain ⟨i, hi, e⟩ := (any_id L id).1 hh; exact h1 i hi e), if_pos h]
  · rw [if_neg (fun hh => by obtain ⟨i, hi, e⟩ := (any_id L id).1 hh; exact h1 i hi e), if_neg h2, if_pos ((any_bad _ n f).2 h)]
  · rw [if_neg (fun hh => by obtain ⟨i, hi, e⟩ := (any_id L id).1 hh; exact h1 i hi e), if_neg h2, if_neg (fun hh => by obtain ⟨j, hj, e⟩ := (any_bad _ n f).1 hh; exact h3 j hj e), if_pos h]
  · rw [if_neg (fun hh => by obtain ⟨i, hi, e⟩ := (any_id L id).1 hh; exact h1 i hi e), if_neg h2, if_neg (fun hh => by obtain ⟨j, hj, e⟩ := (any_bad _ n f).1 hh; exact h3 j hj e), if_neg (by omega), if_pos h]

theorem codeOf_yes {c : Cfg} {id : Int} {n : Nat} {f : Nat → Int} {L : List (Int × List Nat)} {nt : Nat} (h1 : ∀ i, i < L.length → idAt L i ≠ id) (h2 : L.length < 8) (h3 : 1 ≤ n) (h4 : n ≤ 40) (h5 : ∀ j, j < n → ¬ badTok c.vocab (f j))
    (h6 : needOf c.slots (usedOf c.slots (toksOf L)) (natsOf n f) + ((usedOf c.slots (toksOf L)).length + nt) ≤ c.blocks) : 0 = codeOf c id n f L nt := by
  unfold codeOf
  rw [if_neg (fun hh => by obtain ⟨i, hi, e⟩ := (any_id L id).1 hh; exact h1 i hi e), if_neg (by omega), if_neg (fun hh => by obtain ⟨j, hj, e⟩ := (any_bad _ n f).1 hh; exact h5 j hj e), if_neg (by omega), if_neg (by omega)]

/-- What the program's Create has done, told for the statements. -/
structure AfterX (ok : Nat → Prop) (g : Parts) (n : Nat) (c : Cfg) (id : Int) (f : Nat → Int) (L : List (Int × List Nat)) (nt : Nat) (F : Nat → Prop) (w w' : World) : Prop where
  only : Only F w w'
  keep : ∀ e, ¬ mutT e → KeepT e w w'
  no : codeOf c id n f L nt ≠ 0 → Held ok w' g c L nt F
  yes : codeOf c id n f L nt = 0 → Held ok w' g c (L ++ [(id, natsOf n f)]) (nt + if n % c.slots = 0 then 0 else 1) (fun k => F k ∨ w.heap.size ≤ k)

theorem create_law (ok : Nat → Prop) (g : Parts) (n : Nat) (c : Cfg) (hc : c.ok) (id : Int) (f : Nat → Int) (vt : Value) (L : List (Int × List Nat)) (nt : Nat) (F : Nat → Prop) (w : World) (h : Held ok w g c L nt F) (hid : -9223372036854775808 ≤ id ∧ id ≤ 9223372036854775807) (ht : IntsT w vt n f) (hok : ∀ b, w.heap.size ≤ b → ok b) (hL : L.length ≤ 8) :
    Calls Try.prog 13 #[.pointer (some ⟨g.X, 0, none⟩), .int .i64 id, vt] w fun e w' => e = .returned (.int .i64 (codeOf c id n f L nt)) ∧ AfterX ok g n c id f L nt F w w' := by
  refine (create_any ok g n c hc id f vt L nt F w h hid ht hok hL).mono ?_
  rintro e w' ⟨code, rfl, ⟨h0, ⟨q, rfl⟩, hD⟩ | ⟨rfl, h1, h2, h3, h4, h5, h6, h7, h8, h9⟩⟩
  · have := codeOf_no hD
    subst this
    exact ⟨rfl, (Only.refl _ _).drewN q, fun e _ => KeepT.drewN _ _, fun _ => h.below ⟨rfl, rfl, rfl, Nat.le_refl _, fun _ _ => rfl⟩, fun h => absurd h h0⟩
  · have := codeOf_yes (nt := nt) h1 h2 h3 h4 h5 h6
    rw [← this]
    exact ⟨rfl, h7, h8, fun h => absurd this.symm h, fun _ => h9⟩

/-- What the reference's has. -/
structure AfterY (Y d n : Nat) (c : Cfg) (id : Int) (f : Nat → Int) (L : List (Int × List Nat)) (tl : Nat → Nat) (nt : Nat) (vL : Value) (w w' : World) : Prop where
  only : Only (fun k => k = Y ∨ vL.ownBlock = some k) w w'
  no : codeOf c id n f L (cntT tl L.length) ≠ 0 → ∃ nt', nt' ≤ nt + 1 ∧ RefI w' Y d c L tl nt' vL ∧ ∀ ok, SeqsOk ok w vL L.length → SeqsOk ok w' vL L.length
  yes : codeOf c id n f L (cntT tl L.length) = 0 → ∃ tl' nt' vL', nt' ≤ nt + 1 ∧ RefI w' Y d c (L ++ [(id, natsOf n f)]) tl' nt' vL' ∧ (∀ k, vL'.ownBlock = some k → vL.ownBlock = some k ∨ w.heap.size ≤ k) ∧ cntT tl' (L.length + 1) = cntT tl L.length + (if n % c.slots = 0 then 0 else 1) ∧
    ∀ ok, SeqsOk ok w vL L.length → (∀ b, w.heap.size ≤ b → ok b) → SeqsOk ok w' vL' (L.length + 1)

theorem refcreate_law (Y d n : Nat) (c : Cfg) (hc : c.ok) (id : Int) (f : Nat → Int) (vt : Value) (L : List (Int × List Nat)) (tl : Nat → Nat) (nt : Nat) (vL : Value) (w : World) (h : RefI w Y d c L tl nt vL) (ht : Ints w vt n f) (hnt : nt ≤ 5000000000000) :
    Calls Try.prog 43 #[.pointer (some ⟨Y, 0, none⟩), .int .i64 id, vt] w fun e w' => e = .returned (.int .i64 (codeOf c id n f L (cntT tl L.length))) ∧ AfterY Y d n c id f L tl nt vL w w' := by
  refine (refcreate_any Y d n c hc id f vt L tl nt vL w h ht hnt).mono ?_
  rintro e w' ⟨ho, code, rfl, ⟨h0, hR, hD⟩ | ⟨rfl, h1, h2, h3, h4, h5, h6, h7⟩⟩
  · have := codeOf_no hD
    subst this
    exact ⟨rfl, ho, fun _ => hR, fun h => absurd h h0⟩
  · have := codeOf_yes (nt := cntT tl L.length) h1 h2 h3 h4 h5 h6
    rw [← this]
    exact ⟨rfl, ho, fun h => absurd this.symm h, fun _ => h7⟩

theorem RefI.okOld {w : World} {Y d : Nat} {c : Cfg} {L : List (Int × List Nat)} {tl : Nat → Nat} {nt : Nat} {vL : Value} (h : RefI w Y d c L tl nt vL) : SeqsOk (fun b => b < w.heap.size) w vL L.length := by
  intro g i v hg hi hc
  obtain ⟨G, h1, h2⟩ := h.seqs
  have q := owns_cell h1 hg (j := i * 3 + 1) (u := G (i * 3 + 1)) (by simp [show i * 3 + 1 < L.length * 3 by omega])
  rw [q] at hc
  injection hc with hc
  subst hc
  obtain ⟨_, hT, _⟩ := h2 i hi
  intro a n c e
  obtain ⟨a', c', e', _, _, h3⟩ := hT
  obtain ⟨b, off, cur, fr, ea, hb, _⟩ := h3 (h.len i hi).1
  rw [e', ea] at e
  cases e
  exact lt_blk hb

/-- A list of integers was written over that is none of the reference's. -/
theorem RefI.over {ok : Nat → Prop} {w w' : World} {Y d : Nat} {c : Cfg} {L : List (Int × List Nat)} {tl : Nat → Nat} {nt : Nat} {vL : Value} {rb : Option Nat} (h : RefI w Y d c L tl nt vL) (hs : SeqsOk ok w vL L.length) (hd : RefDec w' d c) (ho : Only (fun k => rb = some k) w w')
    (hrb : ∀ k, rb = some k → ¬ ok k ∧ ∃ cur fr, w.heap[k]? = some (.cells cur 3 fr)) : RefI w' Y d c L tl nt vL := by
  have kp : ∀ e : TypeId, e ≠ 3 → KeepT e w w' := fun e he => ho.keep (fun k cur' fr' hk hh => by
    obtain ⟨_, cur, fr, hb⟩ := hrb k hk
    rw [hb] at hh; injection hh with hh; injection hh with _ hh _; exact he hh.symm)
  have ki : ∀ b cur fr, ok b → w.heap[b]? = some (.cells cur 3 fr) → w'.heap[b]? = some (.cells cur 3 fr) := fun b cur fr hb q => by
    rw [ho.block b (lt_blk q) (fun e => (hrb b e).1 hb)]; exact q
  refine ⟨kp _ (by decide) _ _ _ h.obj, ?_, hd, h.tails, h.many, h.len, h.toks⟩
  obtain ⟨G, h1, h3⟩ := h.seqs
  refine ⟨G, owns_keepT h1 (kp _ (by decide)), fun i hi => ⟨(h3 i hi).1, ?_, (h3 i hi).2.2⟩⟩
  obtain ⟨g, hg⟩ : ∃ g, vL.ownBlock = some g := by
    obtain ⟨_, ⟨_, e⟩ | ⟨g, _, _, e, _⟩⟩ := h1
    · omega
    · exact ⟨g, by rw [e]; rfl⟩
  exact (h3 i hi).2.1.stays (hs g i _ hg hi (owns_cell h1 hg (by simp [show i * 3 + 1 < L.length * 3 by omega]))) ki

/-- What puts has done. -/
def PutPost (B0 : Nat) (w : World) (p : PD) (w' : World) : Prop :=
  ∃ p' : PD, p'.Pb = p.Pb ∧ p'.Y = p.Y ∧ p'.c = p.c ∧ PairI B0 w' p' ∧ p'.nt ≤ p.nt + 1 ∧ (∀ k, p'.F k → p.F k ∨ w.heap.size ≤ k) ∧ (∀ k, p'.vL.ownBlock = some k → p.vL.ownBlock = some k ∨ w.heap.size ≤ k) ∧
    Only (fun k => p.F k ∨ k = p.Y ∨ p.vL.ownBlock = some k) w w' ∧ ∀ e, ¬ mutT e → e ≠ 69 → e ≠ 112 → KeepT e w w'

theorem op_cells {w : World} {b : Nat} {a0 a1 a2 a3 a4 a5 : Value} {t : TypeId} {fr : Nat × Nat} (h : w.heap[b]? = some (.cells #[a0, a1, a2, a3, a4, a5] t fr)) :
    w.cell? ⟨b, 0, none⟩ = some a0 ∧ w.cell? ⟨b, 1, none⟩ = some a1 ∧ w.cell? ⟨b, 2, none⟩ = some a2 ∧ w.cell? ⟨b, 3, none⟩ = some a3 ∧ w.cell? ⟨b, 4, none⟩ = some a4 ∧ w.cell? ⟨b, 5, none⟩ = some a5 := by
  refine ⟨?_, ?_, ?_, ?_, ?_, ?_⟩ <;> (rw [cell_blk h]; rfl)

theorem pair_cells {w : World} {b : Nat} {a0 a1 : Value} {t : TypeId} {fr : Nat × Nat} (h : w.heap[b]? = some (.cells #[a0, a1] t fr)) : w.cell? ⟨b, 0, none⟩ = some a0 ∧ w.cell? ⟨b, 1, none⟩ = some a1 := by
  refine ⟨?_, ?_⟩ <;> (rw [cell_blk h]; rfl)

/-- The whole way of puts: w1 behind roomy, w2 behind Create, w3 behind the reference's, w4 behind writing over. -/
theorem puts_fin {B0 : Nat} {p : PD} {w w1 w2 w3 w4 : World} (hp : PairI B0 w p) (hB0 : B0 ≤ w.heap.size) {n : Nat} {f : Nat → Int} {A : Int} {rb : Option Nat} (h1 : Below w.heap.size w w1)
    (h2 : AfterX (fun b => b < w.heap.size ∨ w1.heap.size ≤ b) p.g n p.c A f p.L (cntT p.tl p.L.length) p.F w1 w2) (h3 : AfterY p.Y p.d n p.c A f p.L p.tl p.nt p.vL w2 w3) (h4 : Only (fun k => rb = some k) w3 w4)
    (hrb : ∀ k, rb = some k → w.heap.size ≤ k ∧ k < w1.heap.size ∧ ∃ cur fr, w3.heap[k]? = some (.cells cur 3 fr)) : PutPost B0 w p w4 := by
  have hY1 := (h1.block _ (lt_blk hp.ref.obj)).trans hp.ref.obj
  have hY2 := h2.keep 69 (by unfold mutT; decide) _ _ _ hY1
  have hL1 : ∀ k, p.vL.ownBlock = some k → ∃ cur fr, w1.heap[k]? = some (.cells cur 112 fr) := fun k hk => by
    obtain ⟨cur, fr, q⟩ := hp.ref.own hk
    exact ⟨cur, fr, (h1.block _ (lt_blk q)).trans q⟩
  have hL2 : ∀ k, p.vL.ownBlock = some k → ∃ cur fr, w2.heap[k]? = some (.cells cur 112 fr) := fun k hk => by
    obtain ⟨cur, fr, q⟩ := hL1 k hk
    exact ⟨cur, fr, h2.keep 112 (by unfold mutT; decide) _ _ _ q⟩
  have k23 : ∀ e, e ≠ 69 → e ≠ 112 → KeepT e w2 w3 := fun e e1 e2 => h3.only.keep (fun k cur fr hk hh => by
    rcases hk with rfl | hk
    · rw [hY2] at hh; injection hh with hh; injection hh with _ hh _; exact e1 hh.symm
    · obtain ⟨cur', fr', q⟩ := hL2 k hk
      rw [q] at hh; injection hh with hh; injection hh with _ hh _; exact e2 hh.symm)
  have k34 : ∀ e, e ≠ 3 → KeepT e w3 w4 := fun e e1 => h4.keep (fun k cur fr hk hh => by
    obtain ⟨_, _, cur', fr', q⟩ := hrb k hk
    rw [q] at hh; injection hh with hh; injection hh with _ hh _; exact e1 hh.symm)
  have kp : ∀ e, ¬ mutT e → e ≠ 69 → e ≠ 112 → KeepT e w w4 := fun e e0 e1 e2 => by
    have q3 := ((KeepT.of_below h1).trans (h2.keep e e0)).trans (k23 e e1 e2)
    intro k cur fr hk
    have q := q3 k cur fr hk
    rw [h4.block k (lt_blk q) (fun hh => by have := (hrb k hh).1; have := lt_blk hk; omega)]
    exact q
  have s1 := h1.size
  have s2 := h2.only.size
  have s3 := h3.only.size
  have s4 := h4.size
  have hFl : ∀ k, p.F k → k < w.heap.size := fun k hk => (hp.lo k hk).2
  have honly : Only (fun k => p.F k ∨ k = p.Y ∨ p.vL.ownBlock = some k) w w4 :=
    (((Only.of_below h1 _).trans h2.only (fun k _ hk => .inl hk)).trans h3.only (fun k _ hk => .inr hk)).trans h4 (fun k hk hh => by have := (hrb k hh).1; omega)
  have hpair := kp 46 (by unfold mutT; decide) (by decide) (by decide) _ _ _ hp.obj
  have hmodel : ModelT w4 p.g.M p.c p.g.vE p.g.vH p.g.bL p.g.oL p.g.cL := hp.held.model.keep (kp _ (by unfold mutT; decide) (by decide) (by decide)) (kp _ (by unfold mutT; decide) (by decide) (by decide)) (kp _ (by unfold mutT; decide) (by decide) (by decide)) (kp _ (by unfold mutT; decide) (by decide) (by decide))
  -- a hoard at w2 is one at w4
  have carry : ∀ (L : List (Int × List Nat)) (nt : Nat) (F : Nat → Prop), Held (fun b => b < w.heap.size ∨ w1.heap.size ≤ b) w2 p.g p.c L nt F → Held (fun _ => True) w4 p.g p.c L nt F := fun L nt F h => by
    have h' : Held (fun b => b < w.heap.size ∨ w1.heap.size ≤ b) w3 p.g p.c L nt F := h.only h3.only (fun k _ hk => .inr (by
      rcases hk with rfl | hk
      · exact ⟨_, _, _, hY2, by unfold mutT; decide⟩
      · obtain ⟨cur', fr', q⟩ := hL2 k hk
        exact ⟨_, _, _, q, by unfold mutT; decide⟩)) (fun e he => k23 e (by rintro rfl; revert he; unfold immT; decide) (by rintro rfl; revert he; unfold immT; decide))
    cases hr : rb with
    | none =>
      have h4' : Only (fun _ => False) w3 w4 := h4.mono (fun k _ hk => by rw [hr] at hk; cases hk)
      exact (h'.only h4' (fun k _ hk => hk.elim) (fun e _ => h4'.keep (fun _ _ _ hk => hk.elim))).mono (fun _ _ => trivial)
    | some b =>
      obtain ⟨q1, q2, cur, fr, q3⟩ := hrb b hr
      have h4' : Only (fun k => k = b) w3 w4 := h4.mono (fun k _ hk => by rw [hr] at hk; injection hk with hk; exact hk.symm)
      exact (h'.over hmodel h4' ⟨cur, fr, q3⟩ (by omega)).mono (fun _ _ => trivial)
  have hdec : RefDec w4 p.d p.c := hp.ref.dec.keep (kp _ (by unfold mutT; decide) (by decide) (by decide)) (kp _ (by unfold mutT; decide) (by decide) (by decide))
  have hok2 : SeqsOk (fun b => b < w.heap.size ∨ w2.heap.size ≤ b) w2 p.vL p.L.length := by
    have q : SeqsOk (fun b => b < w.heap.size ∨ w2.heap.size ≤ b) w p.vL p.L.length := fun g i v hg hi hc => (hp.ref.okOld g i v hg hi hc).mono (fun b hb => .inl hb)
    refine q.keep (fun g hg => ?_)
    obtain ⟨cur, fr, q⟩ := hp.ref.own hg
    have q1 := (h1.block _ (lt_blk q)).trans q
    rw [h2.keep 112 (by unfold mutT; decide) _ _ _ q1, q]
  have hrb' : ∀ k, rb = some k → ¬ (k < w.heap.size ∨ w2.heap.size ≤ k) ∧ ∃ cur fr, w3.heap[k]? = some (.cells cur 3 fr) := fun k hk => by
    obtain ⟨q1, q2, q3⟩ := hrb k hk
    exact ⟨by omega, q3⟩
  by_cases hcode : codeOf p.c A n f p.L (cntT p.tl p.L.length) = 0
  · obtain ⟨tl', nt', vL', g1, g2, g3, g4, g5⟩ := h3.yes hcode
    have hh := carry _ _ _ (h2.yes hcode)
    have hr := g2.over (by rw [List.length_append]; exact g5 _ hok2 (fun b hb => .inr hb)) hdec h4 hrb'
    refine ⟨⟨p.Pb, p.g, p.Y, p.d, p.c, p.L ++ [(A, natsOf n f)], tl', nt', vL', fun k => (p.F k ∨ w1.heap.size ≤ k) ∧ k < w4.heap.size⟩, rfl, rfl, rfl, ⟨hpair, hp.cok, ?_, hr, fun k hk => ⟨?_, hk.2⟩, hp.loY, fun k hk => ?_⟩, g1, fun k hk => ?_, fun k hk => ?_, honly, kp⟩
    · rw [show (p.L ++ [(A, natsOf n f)]).length = p.L.length + 1 by simp]
      show Held (fun _ => True) w4 p.g p.c (p.L ++ [(A, natsOf n f)]) (cntT tl' (p.L.length + 1)) _
      rw [g4]
      exact hh.sub (fun k hk hF => ⟨hF, hk⟩)
    · rcases hk.1 with q | q
      · exact (hp.lo k q).1
      · omega
    · rcases g3 k hk with q | q
      · exact hp.loL k q
      · omega
    · rcases hk.1 with q | q
      · exact .inl q
      · exact .inr (by omega)
    · rcases g3 k hk with q | q
      · exact .inl q
      · exact .inr (by omega)
  · obtain ⟨nt', g1, g2, g5⟩ := h3.no hcode
    have hh := carry _ _ _ (h2.no hcode)
    have hr := g2.over (g5 _ hok2) hdec h4 hrb'
    refine ⟨⟨p.Pb, p.g, p.Y, p.d, p.c, p.L, p.tl, nt', p.vL, p.F⟩, rfl, rfl, rfl, ⟨hpair, hp.cok, hh, hr, fun k hk => ⟨(hp.lo k hk).1, by have := (hp.lo k hk).2; omega⟩, hp.loY, hp.loL⟩, g1, fun k hk => .inl hk, fun k hk => .inl hk, honly, kp⟩

theorem below_drewN (w : World) (q : Nat) : Below w.heap.size w (w.drewN q) := ⟨rfl, rfl, rfl, Nat.le_refl _, fun _ _ => rfl⟩

set_option maxRecDepth 100000 in
set_option maxHeartbeats 4000000 in
theorem puts_any (B0 : Nat) (p : PD) (w : World) (hp : PairI B0 w p) (hB0 : B0 ≤ w.heap.size) (H A Bv C : Int) (vT : Value) (n : Nat) (f : Nat → Int) (hT : ArgI B0 w vT n f) (hA : -9223372036854775808 ≤ A ∧ A ≤ 9223372036854775807) (hnt : p.nt ≤ 5000000000000) :
    Calls Try.prog 19 #[.pointer (some ⟨p.Pb, 0, none⟩), .agg #[.int .i64 H, .int .i64 1, .int .i64 A, .int .i64 Bv, .int .i64 C, vT]] w fun e w' => e = .returned (.bool true) ∧ PutPost B0 w p w' := by
  obtain ⟨w0, hw0⟩ : ∃ w0, w0 = w.alloc (.cells #[.int .i64 H, .int .i64 1, .int .i64 A, .int .i64 Bv, .int .i64 C, vT] 38) := ⟨_, rfl⟩
  have hb0 : Below w.heap.size w w0 := by rw [hw0]; exact (Below.refl _ _).alloc (Nat.le_refl _) _
  have x0 : w0.heap[w.heap.size]? = some (.cells #[.int .i64 H, .int .i64 1, .int .i64 A, .int .i64 Bv, .int .i64 C, vT] 38 (0, 0)) := by rw [hw0]; exact alloc_new _ _
  have hs0 := hb0.size
  have hroomy := roomy_all B0 vT n f w0 (hT.keep (fun k hk => hb0.block k (by omega))) (by omega)
  obtain ⟨code, ecode⟩ : ∃ code : Nat, code = codeOf p.c A n f p.L (cntT p.tl p.L.length) := ⟨_, rfl⟩
  obtain ⟨wd1, wd2⟩ := p.c.width_bd hp.cok
  have hcr : ∀ w1 r q, Below w0.heap.size w0 w1 → RoomI w0.heap.size w1 r vT n f → Calls Try.prog 13 #[.pointer (some ⟨p.g.X, 0, none⟩), .int .i64 A, r] (w1.drewN q) fun e w2 => e = .returned (.int .i64 code) ∧ AfterX (fun b => b < w.heap.size ∨ w1.heap.size ≤ b) p.g n p.c A f p.L (cntT p.tl p.L.length) p.F w1 w2 := by
    intro w1 r q hb1 hr
    have h1 : Below w.heap.size w w1 := hb0.trans (hb1.mono hs0)
    have hheld : Held (fun b => b < w.heap.size ∨ w1.heap.size ≤ b) w1 p.g p.c p.L (cntT p.tl p.L.length) p.F := ((hp.held.old (by omega)).below h1).mono (fun b hb => .inl hb)
    refine (create_law _ p.g n p.c hp.cok A f r p.L _ p.F (w1.drewN q) (hheld.below (below_drewN _ _)) hA hr.ints (fun b hb => .inr hb) hp.ref.many).mono ?_
    rintro e w2 ⟨he, hx⟩
    rw [ecode]
    exact ⟨he, ⟨hx.only.os, hx.only.tape, hx.only.output, hx.only.size, hx.only.block⟩, hx.keep, hx.no, hx.yes⟩
  have hlow2 : ∀ w1 w2, Below w0.heap.size w0 w1 → AfterX (fun b => b < w.heap.size ∨ w1.heap.size ≤ b) p.g n p.c A f p.L (cntT p.tl p.L.length) p.F w1 w2 → ∀ k, k < B0 → w2.heap[k]? = w.heap[k]? := fun w1 w2 hb1 hx k hk => by
    have s1 := hb1.size
    rw [hx.only.block k (by omega) (fun hF => by have := (hp.lo k hF).1; omega), hb1.block k (by omega), hb0.block k (by omega)]
  have href2 : ∀ w1 w2, Below w0.heap.size w0 w1 → AfterX (fun b => b < w.heap.size ∨ w1.heap.size ≤ b) p.g n p.c A f p.L (cntT p.tl p.L.length) p.F w1 w2 → RefI w2 p.Y p.d p.c p.L p.tl p.nt p.vL := fun w1 w2 hb1 hx => by
    have h1 : Below w.heap.size w w1 := hb0.trans (hb1.mono hs0)
    have q1 := hp.ref.below h1
    refine q1.keep ?_ (fun k hk => ?_) (hx.keep _ (by unfold mutT; decide)) (hx.keep _ (by unfold mutT; decide))
    · rw [hx.keep 69 (by unfold mutT; decide) _ _ _ q1.obj, q1.obj]
    · obtain ⟨cur, fr, q⟩ := q1.own hk
      rw [hx.keep 112 (by unfold mutT; decide) _ _ _ q, q]
  have hrc : ∀ w1 w2 q, Below w0.heap.size w0 w1 → AfterX (fun b => b < w.heap.size ∨ w1.heap.size ≤ b) p.g n p.c A f p.L (cntT p.tl p.L.length) p.F w1 w2 → Calls Try.prog 43 #[.pointer (some ⟨p.Y, 0, none⟩), .int .i64 A, vT] (w2.drewN q) fun e w3 => e = .returned (.int .i64 code) ∧ AfterY p.Y p.d n p.c A f p.L p.tl p.nt p.vL w2 w3 := by
    intro w1 w2 q hb1 hx
    have hr := href2 w1 w2 hb1 hx
    have s1 := hb1.size
    have s2 := hx.only.size
    refine (refcreate_law p.Y p.d n p.c hp.cok A f vT p.L p.tl p.nt p.vL (w2.drewN q) (hr.below (below_drewN _ _)) ((hT.keep (hlow2 w1 w2 hb1 hx)).ints (by omega)) hnt).mono ?_
    rintro e w3 ⟨he, hy⟩
    rw [ecode]
    exact ⟨he, ⟨hy.only.os, hy.only.tape, hy.only.output, hy.only.size, hy.only.block⟩, hy.no, hy.yes⟩
  have hk3 : ∀ w1 w2 w3, Below w0.heap.size w0 w1 → AfterX (fun b => b < w.heap.size ∨ w1.heap.size ≤ b) p.g n p.c A f p.L (cntT p.tl p.L.length) p.F w1 w2 → AfterY p.Y p.d n p.c A f p.L p.tl p.nt p.vL w2 w3 → ∀ e, ¬ mutT e → e ≠ 69 → e ≠ 112 → KeepT e w1 w3 := fun w1 w2 w3 hb1 hx hy e e0 e1 e2 => by
    have hr := href2 w1 w2 hb1 hx
    refine (hx.keep e e0).trans (hy.only.keep (fun k cur fr hk hh => ?_))
    rcases hk with rfl | hk
    · rw [hr.obj] at hh; injection hh with hh; injection hh with _ hh _; exact e1 hh.symm
    · obtain ⟨cur', fr', q⟩ := hr.own hk
      rw [q] at hh; injection hh with hh; injection hh with _ hh _; exact e2 hh.symm
  have hkept : ∀ w1 w2 w3 r, Below w0.heap.size w0 w1 → RoomI w0.heap.size w1 r vT n f → AfterX (fun b => b < w.heap.size ∨ w1.heap.size ≤ b) p.g n p.c A f p.L (cntT p.tl p.L.length) p.F w1 w2 → AfterY p.Y p.d n p.c A f p.L p.tl p.nt p.vL w2 w3 → Calls Try.prog 46 #[r, vT] w3 fun e w' => e = .returned (.bool true) ∧ w' = w3 := fun w1 w2 w3 r hb1 hr hx hy => by
    refine kept_all B0 w0.heap.size r vT n f w3 (hT.keep (fun k hk => ?_)) (hr.keep (hk3 w1 w2 w3 hb1 hx hy _ (by unfold mutT; decide) (by decide) (by decide)))
    have s1 := hb1.size
    have s2 := hx.only.size
    rw [hy.only.block k (by omega) (fun hh => by
      rcases hh with rfl | hh
      · have := hp.loY; omega
      · have := hp.loL k hh; omega), hlow2 w1 w2 hb1 hx k hk]
  obtain ⟨aT, cT, eT⟩ := hT.slice
  have hobj0 := (hb0.block _ (lt_blk hp.obj)).trans hp.obj
  have HW0 := hide hw0
  have Hroomy := hide hroomy
  have Hcr := hide hcr
  have Hrc := hide hrc
  have Hk3 := hide hk3
  have Hkept := hide hkept
  have Hp := hide hp
  have HT := hide hT
  have HeT := hide eT
  have Hx0 := hide x0
  have Hobj0 := hide hobj0
  have Hb0 := hide hb0
  clear hw0 hroomy hcr hrc hk3 hkept hp hT eT x0 hobj0 hlow2 href2 hb0 ecode
  go_enter Try.func19, Try.ntmps19
  go_wp2_with (first
    | (go_at_call 42; rw [← HW0.out]; refine Hroomy.out.mono ?_; rintro e w1 ⟨r, rfl, hroom, hb1⟩; obtain ⟨y0, y1, y2, y3, y4, y5⟩ := op_cells ((hb1.block _ (lt_blk Hx0.out)).trans Hx0.out); obtain ⟨u0, u1⟩ := pair_cells ((hb1.block _ (lt_blk Hobj0.out)).trans Hobj0.out); have Hb1 := hide hb1; have Hroom := hide hroom; clear hb1 hroom))
  go_region_held3 (fun w' => w'.cell? ⟨p.Pb, 0, none⟩ = some (.pointer (some ⟨p.g.X, 0, none⟩)) ∧ w'.cell? ⟨w.heap.size, 2, none⟩ = some (.int .i64 A)) (go_keep)
    (first | (go_at_call 13; refine (Hcr.out w1 r 1 Hb1.out Hroom.out).mono ?_; rintro e w2 ⟨rfl, h2⟩; obtain ⟨z0, z1, z2, z3, z4, z5⟩ := op_cells (h2.keep 38 (by unfold mutT; decide) _ _ _ ((Hb1.out.block _ (lt_blk Hx0.out)).trans Hx0.out)); obtain ⟨t0, t1⟩ := pair_cells (h2.keep 46 (by unfold mutT; decide) _ _ _ ((Hb1.out.block _ (lt_blk Hobj0.out)).trans Hobj0.out)); have H2 := hide h2; clear h2))
  go_wp2
  go_region_held3 (fun w' => w'.cell? ⟨p.Pb, 1, none⟩ = some (.pointer (some ⟨p.Y, 0, none⟩)) ∧ w'.cell? ⟨w.heap.size, 2, none⟩ = some (.int .i64 A) ∧ w'.cell? ⟨w.heap.size, 5, none⟩ = some vT) (go_keep)
    (first | (go_at_call 43; refine (Hrc.out w1 w2 1 Hb1.out H2.out).mono ?_; rintro e w3 ⟨rfl, h3⟩; obtain ⟨m0, m1, m2, m3, m4, m5⟩ := op_cells (Hk3.out w1 w2 w3 Hb1.out H2.out h3 38 (by unfold mutT; decide) (by decide) (by decide) _ _ _ ((Hb1.out.block _ (lt_blk Hx0.out)).trans Hx0.out)); obtain ⟨v0, v1⟩ := pair_cells (Hk3.out w1 w2 w3 Hb1.out H2.out h3 46 (by unfold mutT; decide) (by decide) (by decide) _ _ _ ((Hb1.out.block _ (lt_blk Hobj0.out)).trans Hobj0.out)); have H3 := hide h3; clear h3))
  all_goals (
    obtain ⟨ra, rc, er⟩ := Hroom.out.slice
    subst er
    have hlen : n ≤ 9223372036854775807 := by
      obtain ⟨_, c', e, q1, q2, _⟩ := Hroom.out.ints
      unfold maxLen at q2
      omega
    have hroom3 := Hroom.out.keep (Hk3.out w1 w2 w3 Hb1.out H2.out H3.out _ (by unfold mutT; decide) (by decide) (by decide))
    have Hroom3 := hide hroom3
    clear hroom3
    go_wp2_with (go_at_call 46; refine (Hkept.out w1 w2 w3 _ Hb1.out Hroom.out H2.out H3.out).mono ?_; rintro e w9 ⟨rfl, e9⟩; have e9' := e9.symm; clear e9; subst e9')
    go_loopw [9] (fun i wr => ∃ k : Nat, k ≤ n ∧ i = .int .i64 k ∧ Hid (Only (fun b => (Value.slice ra n rc).ownBlock = some b) w3 wr ∧ RoomI w0.heap.size wr (.slice ra n rc) vT n (fun j => if j < k then 0 else f j))) (fun i _ => n - (intOf i).toNat)
    case atStart => exact ⟨0, Nat.zero_le _, rfl, (Only.refl _ _), by simpa using Hroom3.out⟩
    case round =>
      obtain ⟨k, hk, rfl, Hinv⟩ := hrel
      by_cases hlt : k < n
      · obtain ⟨hO, hroomk⟩ := Hinv.out
        rcases hroomk with ⟨_, e, _⟩ | ⟨g', c', a', cap', ev, er, hrow⟩
        · omega
        · injection er with er1 _ er3
          subst er1 er3
          rcases OwnI.of_owns hrow with ⟨_, h0⟩ | ⟨b, cap, e, ho⟩
          · omega
          · injection e with e1 _ e3
            injection e1 with e1
            injection e1 with e1 _ _
            subst e1 e3
            have c0 := ho.cell k (by omega)
            have f0 := ho.frozen k
            have hset := (ho.set k 0).owns
            have e9 : (List.range (n + 8)).map (fun j => Value.int .i64 (if j = k then 0 else marked n (fun j => if j < k then 0 else f j) j)) = (List.range (n + 8)).map (fun j => Value.int .i64 (marked n (fun j => if j < k + 1 then 0 else f j) j)) := by
              apply List.map_congr_left
              intro j _
              unfold marked
              by_cases h1 : j = k
              · rw [if_pos h1, if_pos (by omega)]; simp only [if_pos (show j < k + 1 by omega)]
              · rw [if_neg h1]
                by_cases h2 : j < k
                · simp only [if_pos (show j < n by omega), if_pos h2, if_pos (show j < k + 1 by omega)]
                · simp only [if_neg h2, if_neg (show ¬ j < k + 1 by omega)]
            rw [e9] at hset
            have hroom' : RoomI w0.heap.size (wr.setCell ⟨g', k, none⟩ (.int .i64 0)) (.slice (some ⟨g', 0, none⟩) n rc) vT n (fun j => if j < k + 1 then 0 else f j) := .inr ⟨g', rc, a', cap', ev, rfl, hset⟩
            have hO' := hO.setCell (p := ⟨g', k, none⟩) (fun _ => rfl) (.int .i64 0)
            have Hroom' := hide hroom'
            have HO' := hide hO'
            clear hroom' hO' hset e9 ho hrow
            go_wp2
            go_roundw
            case rel => exact ⟨k + 1, by omega, by go_num, HO'.out, Hroom'.out⟩
            case measure => simp [intOf]; omega
      · go_wp2
        go_ret
        refine ⟨rfl, puts_fin (rb := (Value.slice ra n rc).ownBlock) Hp.out hB0 (Hb0.out.trans (Hb1.out.mono hs0)) H2.out H3.out Hinv.out.1 (fun b hb => ?_)⟩
        rcases Hroom.out with ⟨_, _, e⟩ | ⟨g', c', a', cap', ev, er, hrow⟩
        · rw [e] at hb; cases hb
        · have hb' : (Value.slice (some ⟨g', 0, none⟩) (n + 8) c').ownBlock = some b := by rw [er] at hb; exact hb
          obtain ⟨q1, q2⟩ := hrow.lt b hb'
          refine ⟨by omega, q2, ?_⟩
          rcases Hroom3.out with ⟨_, _, e⟩ | ⟨g2, c2, a2, cap2, ev2, er2, hrow2⟩
          · rw [e] at er; cases er
          · obtain ⟨_, ⟨e1, _⟩ | ⟨g3, cap3, cur3, e3, _, hh, _⟩⟩ := hrow2
            · cases e1
            · refine ⟨cur3, (0, 0), ?_⟩
              rw [er2] at hb
              injection hb with hb
              injection e3 with e3 _ _
              injection e3 with e3
              injection e3 with e3 _ _
              rw [← hb, e3]; exact hh)

end Go.Proofs.Ytaidjhlijadmiaa
