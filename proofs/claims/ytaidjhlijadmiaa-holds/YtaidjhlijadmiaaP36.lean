import Derived.Deep.RegionLaw
import Derived.Deep.AppendLies
import Derived.Deep.Cut
import Derived.Test.YtaidjhlijadmiaaP25
import Derived.Test.YtaidjhlijadmiaaP32
import Derived.Test.YtaidjhlijadmiaaP35

/-
  The reference's Create.
-/
namespace Go.Proofs.Ytaidjhlijadmiaa
open Go.RowKit
attribute [local go_sem ↓] Go.wp_at_zero Go.wp_at_succ

theorem Try.info_seq : (Try.prog.info? 112).map (fun i => (i.zero, i.size, i.bytes)) = some (some (.agg #[.int .i64 0, .slice none 0 0, .int .i64 0]), 3, 40) := by kernel_rfl

theorem idAt_snoc (L : List (Int × List Nat)) (x : Int × List Nat) (i : Nat) (h : i < L.length) : idAt (L ++ [x]) i = idAt L i ∧ toksAt (L ++ [x]) i = toksAt L i := by
  unfold idAt toksAt
  rw [List.getD_eq_getElem?_getD, List.getD_eq_getElem?_getD, List.getElem?_append_left h]
  exact ⟨rfl, rfl⟩
theorem idAt_last (L : List (Int × List Nat)) (x : Int × List Nat) : idAt (L ++ [x]) L.length = x.1 ∧ toksAt (L ++ [x]) L.length = x.2 := by
  unfold idAt toksAt
  rw [List.getD_eq_getElem?_getD]
  simp

/-- One sequence more. -/
theorem SeqsI.push {w w' : World} {v' vT : Value} {L : List (Int × List Nat)} {tl : Nat → Nat} {id : Int} {T : List Nat} {t : Nat} {F : Nat → Value}
    (hF : ∀ i, i < L.length → F (i * 3) = .int .i64 (idAt L i) ∧ TokT w (F (i * 3 + 1)) (toksAt L i) ∧ F (i * 3 + 2) = .int .i64 (tl i))
    (hown : w'.ownsRow 0 112 3 v' (L.length + 1) ((List.range (L.length * 3)).map F ++ [.int .i64 id, vT, .int .i64 t])) (hk : KeepT 3 w w') (hT : TokT w' vT T) :
    SeqsI w' v' (L ++ [(id, T)]) (fun i => if i = L.length then t else tl i) := by
  refine ⟨fun j => if j = L.length * 3 then .int .i64 id else if j = L.length * 3 + 1 then vT else if j = L.length * 3 + 2 then .int .i64 t else F j, ?_, fun i hi => ?_⟩
  · have e : (List.range ((L ++ [(id, T)]).length * 3)).map (fun j => if j = L.length * 3 then Value.int .i64 id else if j = L.length * 3 + 1 then vT else if j = L.length * 3 + 2 then .int .i64 t else F j) = (List.range (L.length * 3)).map F ++ [.int .i64 id, vT, .int .i64 t] := by
      rw [List.length_append, List.length_singleton, show (L.length + 1) * 3 = L.length * 3 + 3 by omega, range_map_add]
      congr 1
      · apply List.map_congr_left
        intro j hj
        have := List.mem_range.1 hj
        rw [if_neg (by omega), if_neg (by omega), if_neg (by omega)]
      · simp [List.range_succ]
    rw [e, List.length_append, List.length_singleton]
    exact hown
  · rw [List.length_append, List.length_singleton] at hi
    by_cases e : i = L.length
    · subst e
      obtain ⟨q1, q2⟩ := idAt_last L (id, T)
      rw [q1, q2]
      simp [hT]
    · obtain ⟨q1, q2⟩ := idAt_snoc L (id, T) i (by omega)
      rw [q1, q2]
      simp only [if_neg e]
      rw [if_neg (by omega), if_neg (by omega), if_neg (by omega), if_neg (by omega), if_neg (by omega), if_neg (by omega), if_neg (by omega), if_neg (by omega), if_neg (by omega)]
      obtain ⟨h1, h2, h3⟩ := hF i (by omega)
      exact ⟨h1, h2.keep hk, h3⟩

/-- The reference's hoard, behind a call that changed nothing of it but its count of tails. -/
theorem RefI.moved {w W : World} {Y d : Nat} {c : Cfg} {L : List (Int × List Nat)} {tl : Nat → Nat} {nt nt' : Nat} {vL : Value} (h : RefI w Y d c L tl nt vL) (hO : Only (fun k => k = Y) w W)
    (hobj : W.heap[Y]? = some (.cells #[.pointer (some ⟨d, 0, none⟩), vL, .slice none 0 0, .int .i64 nt'] 69 (0, 0))) (hle : nt ≤ nt') : RefI W Y d c L tl nt' vL := by
  have kp : ∀ e : TypeId, e ≠ 69 → KeepT e w W := fun e he => hO.keep (fun k cur fr hk hh => by
    subst hk
    rw [h.obj] at hh
    injection hh with hh
    injection hh with _ h2 _
    exact he h2.symm)
  refine ⟨hobj, ?_, h.dec.keep (kp _ (by decide)) (kp _ (by decide)), ⟨h.tails.none, fun i hi => Nat.le_trans (h.tails.le i hi) hle, h.tails.apart⟩, h.many, h.len, h.toks⟩
  obtain ⟨F, ⟨h1, h2 | ⟨g, cap, cur, e', hg, hh, rest⟩⟩, h3⟩ := h.seqs
  · exact ⟨F, ⟨h1, .inl h2⟩, fun i hi => ⟨(h3 i hi).1, (h3 i hi).2.1.keep (kp _ (by decide)), (h3 i hi).2.2⟩⟩
  · exact ⟨F, ⟨h1, .inr ⟨g, cap, cur, e', hg, kp _ (by decide) _ _ _ hh, rest⟩⟩, fun i hi => ⟨(h3 i hi).1, (h3 i hi).2.1.keep (kp _ (by decide)), (h3 i hi).2.2⟩⟩

theorem three_new (w : World) (a b c : Value) (t : TypeId) : ∀ (j : Nat) (u : Value), [a, b, c][j]? = some u → (w.alloc (.cells #[a, b, c] t)).cell? ((⟨w.heap.size, 0, none⟩ : Addr).add j) = some u := by
  intro j u hj
  match j, hj with
  | 0, hj => simp at hj; subst hj; simp [Addr.add]
  | 1, hj => simp at hj; subst hj; simp [Addr.add]
  | 2, hj => simp at hj; subst hj; simp [Addr.add]

theorem cntT_congr {tl tl' : Nat → Nat} (n : Nat) (h : ∀ i, i < n → tl i = tl' i) : cntT tl n = cntT tl' n := by
  induction n with
  | zero => rfl
  | succ n ih => simp only [cntT]; rw [ih (fun i hi => h i (by omega)), h n (by omega)]

/-- Tokens of raw numbers. -/
def natsOf (n : Nat) (f : Nat → Int) : List Nat := (List.range n).map fun j => (f j).toNat

theorem natsOf_len (n : Nat) (f : Nat → Int) : (natsOf n f).length = n := by simp [natsOf]
theorem natsOf_tk (n : Nat) (f : Nat → Int) (j : Nat) (h : j < n) (h0 : 0 ≤ f j) : tkI (natsOf n f) j = f j := by
  unfold tkI tkN natsOf
  rw [List.getD_eq_getElem?_getD]
  simp [h]
  omega

theorem TailsI.push {s : Nat} {L : List (Int × List Nat)} {tl : Nat → Nat} {nt : Nat} (h : TailsI s L tl nt) (id : Int) (T : List Nat) :
    TailsI s (L ++ [(id, T)]) (fun i => if i = L.length then (if T.length % s = 0 then 0 else nt + (if T.length % s = 0 then 0 else 1)) else tl i) (nt + (if T.length % s = 0 then 0 else 1)) := by
  refine ⟨fun i hi => ?_, fun i hi => ?_, fun i j hi hj e => ?_⟩
  · rw [List.length_append, List.length_singleton] at hi
    by_cases e : i = L.length
    · subst e
      rw [(idAt_last L (id, T)).2, if_pos rfl]
      by_cases hm : T.length % s = 0 <;> simp [hm]
    · rw [(idAt_snoc L (id, T) i (by omega)).2]; simp only [if_neg e]; exact h.none i (by omega)
  · rw [List.length_append, List.length_singleton] at hi
    by_cases e : i = L.length
    · simp only [if_pos e]; split <;> omega
    · simp only [if_neg e]; have := h.le i (by omega); omega
  · rw [List.length_append, List.length_singleton] at hi
    by_cases e1 : i = L.length
    · simp only [if_pos e1, if_neg (show ¬ j = L.length by omega)] at e ⊢
      have := h.le j (by omega)
      by_cases hm : T.length % s = 0
      · simp [hm]
      · simp [hm] at e ⊢; omega
    · simp only [if_neg e1, if_neg (show ¬ j = L.length by omega)] at e ⊢
      exact h.apart i j (by omega) hj e

/-- One sequence more, and the hoard knows of it. -/
theorem RefI.push {W w2 : World} {Y d : Nat} {c : Cfg} {L : List (Int × List Nat)} {tl : Nat → Nat} {nt t gg cap : Nat} {vL vT : Value} {id : Int} {T : List Nat} {F : Nat → Value} (h : RefI W Y d c L tl nt vL)
    (hrow : W.ownsRow 0 112 3 vL L.length ((List.range (L.length * 3)).map F))
    (hF : ∀ i, i < L.length → F (i * 3) = .int .i64 (idAt L i) ∧ TokT W (F (i * 3 + 1)) (toksAt L i) ∧ F (i * 3 + 2) = .int .i64 (tl i))
    (hown : w2.ownsRow 0 112 3 (.slice (some ⟨gg, 0, none⟩) (L.length + 1) cap) (L.length + 1) ((List.range (L.length * 3)).map F ++ [.int .i64 id, vT, .int .i64 t]))
    (hgrow : (W.alloc (.cells #[.int .i64 id, vT, .int .i64 t] 112)).drew.grownBy w2 vL.ownBlock) (hT : TokT W vT T)
    (htl : TailsI c.slots (L ++ [(id, T)]) (fun i => if i = L.length then t else tl i) nt) (hm : L.length < 8) (h1 : 1 ≤ T.length) (h2 : T.length ≤ 40) (h3 : ∀ x ∈ T, x < c.vocab) :
    RefI (w2.setCell ⟨Y, 1, none⟩ (.slice (some ⟨gg, 0, none⟩) (L.length + 1) cap)) Y d c (L ++ [(id, T)]) (fun i => if i = L.length then t else tl i) nt (.slice (some ⟨gg, 0, none⟩) (L.length + 1) cap) := by
  have hown' : (W.alloc (.cells #[.int .i64 id, vT, .int .i64 t] 112)).drew.ownsRow 0 112 3 vL L.length ((List.range (L.length * 3)).map F) := (hrow.alloc _).drew
  have kg : ∀ e : TypeId, e ≠ 112 → KeepT e W w2 := fun e he => ((KeepT.alloc _ _).trans (KeepT.drewN _ 1)).trans (KeepT.of_grown hown' hgrow he)
  have hobj2 := kg _ (by decide) _ _ _ h.obj
  have ks : ∀ e : TypeId, e ≠ 69 → KeepT e w2 (w2.setCell ⟨Y, 1, none⟩ (.slice (some ⟨gg, 0, none⟩) (L.length + 1) cap)) := fun e he => KeepT.setCell hobj2 he _
  refine ⟨?_, ?_, (h.dec.keep (kg _ (by decide)) (kg _ (by decide))).keep (ks _ (by decide)) (ks _ (by decide)), htl, by simp; omega, fun i hi => ?_, fun i hi => ?_⟩
  · rw [setCell_blk hobj2]; rfl
  · have hs := SeqsI.push (w := W) hF hown (kg _ (by decide)) (hT.keep (kg _ (by decide)))
    obtain ⟨G, ⟨q1, ⟨q2, _⟩ | ⟨g', cap', cur', e', hg', hh', rest⟩⟩, q3⟩ := hs
    · cases q2
    · exact ⟨G, ⟨q1, .inr ⟨g', cap', cur', e', hg', ks _ (by decide) _ _ _ hh', rest⟩⟩, fun i hi => ⟨(q3 i hi).1, (q3 i hi).2.1.keep (ks _ (by decide)), (q3 i hi).2.2⟩⟩
  · simp only [List.length_append, List.length_singleton] at hi
    by_cases e : i = L.length
    · subst e; rw [(idAt_last L (id, T)).2]; exact ⟨h1, h2⟩
    · rw [(idAt_snoc L (id, T) i (by omega)).2]; exact h.len i (by omega)
  · simp only [List.length_append, List.length_singleton] at hi
    by_cases e : i = L.length
    · subst e; rw [(idAt_last L (id, T)).2]; exact h3
    · rw [(idAt_snoc L (id, T) i (by omega)).2]; exact h.toks i (by omega)

/-- The tokens of the sequences lie in blocks that are 'ok'. -/
def SeqsOk (ok : Nat → Prop) (w : World) (vL : Value) (n : Nat) : Prop := ∀ g i v, vL.ownBlock = some g → i < n → w.cell? ⟨g, i * 3 + 1, none⟩ = some v → okV ok v

theorem SeqsOk.keep {ok : Nat → Prop} {w w' : World} {vL : Value} {n : Nat} (h : SeqsOk ok w vL n) (hk : ∀ g, vL.ownBlock = some g → w'.heap[g]? = w.heap[g]?) : SeqsOk ok w' vL n := fun g i v hg hi hc =>
  h g i v hg hi ((World.cell?_of_block (w := w) (w' := w') (a := ⟨g, i * 3 + 1, none⟩) (hk g hg)).symm.trans hc)

theorem owns_cell {w : World} {base : Nat} {e : TypeId} {size : Nat} {v : Value} {n : Nat} {xs : List Value} (h : w.ownsRow base e size v n xs) {g : Nat} (hg : v.ownBlock = some g) {j : Nat} {u : Value} (hj : xs[j]? = some u) : w.cell? ⟨g, j, none⟩ = some u := by
  obtain ⟨_, ⟨e1, _⟩ | ⟨g', cap, cur, e1, _, hh, _, _, _, ht⟩⟩ := h
  · rw [e1] at hg; cases hg
  · rw [e1] at hg
    injection hg with hg
    subst hg
    rw [cell_blk hh]
    rw [← ht] at hj
    have : j < n * size := by
      have := (List.getElem?_eq_some_iff.1 hj).1
      simp at this
      omega
    rw [List.getElem?_take_of_lt this] at hj
    simpa using hj

theorem SeqsOk.push {ok : Nat → Prop} {w3 w6 : World} {vL vT : Value} {n gg cap t : Nat} {id : Int} {F : Nat → Value} (h : SeqsOk ok w3 vL n) (hrow : w3.ownsRow 0 112 3 vL n ((List.range (n * 3)).map F))
    (hown : w6.ownsRow 0 112 3 (.slice (some ⟨gg, 0, none⟩) (n + 1) cap) (n + 1) ((List.range (n * 3)).map F ++ [.int .i64 id, vT, .int .i64 t])) (hT : okV ok vT) : SeqsOk ok w6 (.slice (some ⟨gg, 0, none⟩) (n + 1) cap) (n + 1) := by
  have hrow0 := hrow
  intro g i v hg hi hc
  by_cases e : i = n
  · subst e
    have := owns_cell hown hg (j := i * 3 + 1) (u := vT) (by rw [List.getElem?_append_right (by simp)]; simp)
    rw [this] at hc
    injection hc with hc
    subst hc
    exact hT
  · have hlt : i * 3 + 1 < n * 3 := by omega
    have q := owns_cell hown hg (j := i * 3 + 1) (u := F (i * 3 + 1)) (by rw [List.getElem?_append_left (by simp; omega)]; simp [hlt])
    rw [q] at hc
    injection hc with hc
    subst hc
    obtain ⟨_, ⟨e1, e2⟩ | ⟨g', cap', cur, e1, r⟩⟩ := hrow0
    · omega
    · exact h g' i _ (by rw [e1]; rfl) (by omega) (owns_cell hrow (by rw [e1]; rfl) (by simp [hlt]))

/-- What the reference's Create has done. -/
def RefCreated (Y d n : Nat) (c : Cfg) (id : Int) (f : Nat → Int) (L : List (Int × List Nat)) (tl : Nat → Nat) (nt : Nat) (vL : Value) (w : World) (e : Ending) (w' : World) : Prop :=
      Only (fun k => k = Y ∨ vL.ownBlock = some k) w w' ∧ ∃ code : Nat, e = .returned (.int .i64 code) ∧
      ((code ≠ 0 ∧ (∃ nt', nt' ≤ nt + 1 ∧ RefI w' Y d c L tl nt' vL ∧ ∀ ok, SeqsOk ok w vL L.length → SeqsOk ok w' vL L.length) ∧
         ((∃ i, i < L.length ∧ idAt L i = id) ∧ code = 2 ∨ (∀ i, i < L.length → idAt L i ≠ id) ∧ ((8 ≤ L.length ∨ n = 0) ∧ code = 1 ∨ ¬ (8 ≤ L.length ∨ n = 0) ∧ ((∃ j, j < n ∧ badTok c.vocab (f j)) ∧ code = 4 ∨ (∀ j, j < n → ¬ badTok c.vocab (f j)) ∧ (40 < n ∧ code = 5 ∨
           n ≤ 40 ∧ c.blocks < needOf c.slots (usedOf c.slots (toksOf L)) (natsOf n f) + ((usedOf c.slots (toksOf L)).length + cntT tl L.length) ∧ code = 6))))) ∨
       (code = 0 ∧ (∀ i, i < L.length → idAt L i ≠ id) ∧ L.length < 8 ∧ 1 ≤ n ∧ n ≤ 40 ∧ (∀ j, j < n → ¬ badTok c.vocab (f j)) ∧ needOf c.slots (usedOf c.slots (toksOf L)) (natsOf n f) + ((usedOf c.slots (toksOf L)).length + cntT tl L.length) ≤ c.blocks ∧
         ∃ tl' nt' vL', nt' ≤ nt + 1 ∧ RefI w' Y d c (L ++ [(id, natsOf n f)]) tl' nt' vL' ∧ (∀ k, vL'.ownBlock = some k → vL.ownBlock = some k ∨ w.heap.size ≤ k) ∧ cntT tl' (L.length + 1) = cntT tl L.length + (if n % c.slots = 0 then 0 else 1) ∧
           ∀ ok, SeqsOk ok w vL L.length → (∀ b, w.heap.size ≤ b → ok b) → SeqsOk ok w' vL' (L.length + 1)))

set_option maxRecDepth 100000 in
set_option maxHeartbeats 4000000 in
theorem refcreate_any (Y d n : Nat) (c : Cfg) (hc : c.ok) (id : Int) (f : Nat → Int) (vt : Value) (L : List (Int × List Nat)) (tl : Nat → Nat) (nt : Nat) (vL : Value) (w : World) (h : RefI w Y d c L tl nt vL) (ht : Ints w vt n f) (hnt : nt ≤ 5000000000000) :
    Calls Try.prog 43 #[.pointer (some ⟨Y, 0, none⟩), .int .i64 id, vt] w fun e w' => RefCreated Y d n c id f L tl nt vL w e w' := by
  obtain ⟨i1, hi', hz0', hz1', hz2'⟩ := info_parts Try.info_seq
  have hYl := lt_blk h.obj
  have y0 : w.cell? ⟨Y, 0, none⟩ = some (.pointer (some ⟨d, 0, none⟩)) := by rw [cell_blk h.obj]; rfl
  have y1 : w.cell? ⟨Y, 1, none⟩ = some vL := by rw [cell_blk h.obj]; rfl
  have d5 : w.cell? ⟨d, 5, none⟩ = some (.int .i64 c.vocab) := by
    obtain ⟨vW, h1, _⟩ := h.dec
    rw [cell_blk h1]; rfl
  have hmany := h.many
  have ht0 := ht
  obtain ⟨at', ct, rfl, ht1, ht2, _⟩ := ht0
  obtain ⟨aL, cL, eL, hL1, hL2, _⟩ := h.seqs.cells
  unfold maxLen at ht2 hL2
  have HeL := hide eL
  have hwr := refwrong_any Y d n c _ f w y0 d5 ht
  have Hwr := hide hwr
  clear hwr
  go_enter Try.func43, Try.ntmps43
  go_wp2_with fail
  refine Hwr.out.mono ?_
  rintro e W1 ⟨hw, q, rfl⟩
  have hw' : ∃ bad : Bool, e = .returned (.bool bad) ∧ (bad = true → ∃ j, j < n ∧ badTok c.vocab (f j)) ∧ (bad = false → ∀ j, j < n → ¬ badTok c.vocab (f j)) := by
    rcases hw with ⟨rfl, hj⟩ | ⟨rfl, hj⟩
    · exact ⟨true, rfl, fun _ => hj, fun h => absurd h (by decide)⟩
    · exact ⟨false, rfl, fun h => absurd h (by decide), fun _ => hj⟩
  obtain ⟨bad, rfl, hbad, hgood⟩ := hw'
  clear hw Hwr
  have hO1 : Only (fun k => k = Y ∨ vL.ownBlock = some k) w (w.drewN q) := (Only.refl _ _).drewN q
  have h1 : RefI (w.drewN q) Y d c L tl nt vL := ⟨h.obj, h.seqs, h.dec, h.tails, h.many, h.len, h.toks⟩
  have hf := reffind_any Y id vL L tl (w.drewN q) y1 h1.seqs (by omega)
  have Hf := hide hf
  clear hf
  go_wp2_with fail
  refine Hf.out.mono ?_
  rintro e W2 ⟨hfind, rfl⟩
  clear Hf
  have y1' : (w.drewN q).cell? ⟨Y, 1, none⟩ = some (.slice aL L.length cL) := by rw [← eL]; exact y1
  clear eL
  rcases hfind with ⟨rfl, hno⟩ | ⟨k, rfl, hk, hid, _⟩
  · have Hno := hide hno
    clear hno
    by_cases h8 : 8 ≤ L.length
    · go_wp2
      go_ret
      exact ⟨hO1, 1, rfl, .inl ⟨by omega, ⟨nt, by omega, h1, fun _ h => h⟩, .inr ⟨Hno.out, .inl ⟨.inl h8, rfl⟩⟩⟩⟩
    · by_cases hn0 : n = 0
      · have hnb : ((n : Int) == 0) = true := by rw [beq_iff_eq]; omega
        go_wp2
        go_ret
        exact ⟨hO1, 1, rfl, .inl ⟨by omega, ⟨nt, by omega, h1, fun _ h => h⟩, .inr ⟨Hno.out, .inl ⟨.inr hn0, rfl⟩⟩⟩⟩
      · have hnb : ((n : Int) == 0) = false := by rw [beq_eq_false_iff_ne]; omega
        cases bad with
        | true =>
          have Hb := hide (hbad rfl)
          clear hbad hgood
          go_wp2
          go_ret
          exact ⟨hO1, 4, rfl, .inl ⟨by omega, ⟨nt, by omega, h1, fun _ h => h⟩, .inr ⟨Hno.out, .inr ⟨by omega, .inl ⟨Hb.out, rfl⟩⟩⟩⟩⟩
        | false =>
          have Hgood := hide (hgood rfl)
          clear hgood hbad
          by_cases h40 : 40 < n
          · go_wp2
            go_ret
            exact ⟨hO1, 5, rfl, .inl ⟨by omega, ⟨nt, by omega, h1, fun _ h => h⟩, .inr ⟨Hno.out, .inr ⟨by omega, .inr ⟨Hgood.out, .inl ⟨h40, rfl⟩⟩⟩⟩⟩⟩
          · have hTT : Ints (w.drewN q) (.slice at' n ct) (natsOf n f).length (tkI (natsOf n f)) := by
              rw [natsOf_len]
              exact ht.congr (fun j hj => (natsOf_tk n f j hj (by have := Hgood.out j hj; unfold badTok at this; omega)).symm)
            have hput := refput_new Y d c hc id (natsOf n f) _ L tl nt vL (w.drewN q) h1 hTT (by rw [natsOf_len]; omega) (by rw [natsOf_len]; omega) hnt
            rw [natsOf_len] at hput
            have Hput := hide hput
            clear hput
            go_wp2_with fail
            refine Hput.out.mono ?_
            rintro e W3 ⟨hO3, nt', hnt', hobj3, hcase⟩
            have hle3 : nt ≤ nt' := by rw [hnt']; omega
            have hle3' : nt' ≤ nt + 1 := by rw [hnt']; split <;> omega
            have hO3' : Only (fun k => k = Y) w W3 := ⟨hO3.os, hO3.tape, hO3.output, hO3.size, hO3.block⟩
            have hR3 : RefI W3 Y d c L tl nt' vL := h.moved hO3' hobj3 hle3
            have hgty : ∀ g, vL.ownBlock = some g → ∃ cur fr, w.heap[g]? = some (.cells cur 112 fr) := fun g hg => by
              obtain ⟨G, ⟨_, ⟨e1, _⟩ | ⟨g', cap, cur, e1, _, hh, _⟩⟩, _⟩ := h.seqs
              · rw [e1] at hg; cases hg
              · rw [e1] at hg; injection hg with hg; subst hg; exact ⟨_, _, hh⟩
            have hgl : ∀ g, vL.ownBlock = some g → g < w.heap.size := fun g hg => by obtain ⟨_, _, q⟩ := hgty g hg; exact lt_blk q
            have hgY : ∀ g, vL.ownBlock = some g → ¬ g = Y := fun g hg e => by
              obtain ⟨_, _, q⟩ := hgty g hg
              rw [e, h.obj] at q; injection q with q; injection q with _ q _; exact absurd q (by decide)
            have Hgl := hide hgl
            have HgY := hide hgY
            have Hgty := hide hgty
            have Hnt' := hide hnt'
            have hge3 : w.heap.size ≤ W3.heap.size := hO3'.size
            have hY3 := lt_blk hobj3
            clear hnt' Hput hgty
            rcases hcase with ⟨hfull, rfl⟩ | ⟨hroom, v, rfl, hvT, hvok⟩
            · have Hfull := hide hfull
              clear hfull
              go_wp2
              go_ret
              refine ⟨(hO3'.alloc _).mono (fun k _ hk => .inl hk), 6, rfl, .inl ⟨by omega, ⟨nt', hle3', hR3.below ((Below.refl _ _).alloc (Nat.le_refl _) _), fun _ h => h.keep (fun g hg => (alloc_old _ _ _ (Nat.lt_of_lt_of_le (hgl g hg) hge3)).trans (hO3'.block g (hgl g hg) (hgY g hg)))⟩, .inr ⟨Hno.out, .inr ⟨by omega, .inr ⟨Hgood.out, .inr ⟨by omega, Hfull.out, rfl⟩⟩⟩⟩⟩⟩
            · have Hroom := hide hroom
              clear hroom
              obtain ⟨av, cv, ev, _, _⟩ := hvT.slice
              rw [natsOf_len] at ev
              subst ev
              obtain ⟨t, et⟩ : ∃ t : Nat, t = (if n % c.slots = 0 then 0 else nt') := ⟨_, rfl⟩
              have et' : (if n % c.slots = 0 then (0 : Int) else (nt' : Int)) = (t : Int) := by rw [et]; split <;> simp
              rw [et']
              have Het := hide et
              clear et et'
              obtain ⟨F, hF1, hF2⟩ := hR3.seqs
              have c1 : W3.cell? ⟨Y, 1, none⟩ = some vL := by rw [cell_blk hobj3]; rfl
              have f1 := frozen_blk hobj3 1
              have c1' : ∀ o, (W3.alloc o).cell? ⟨Y, 1, none⟩ = some vL := fun o => (World.cell?_alloc_past _ _ _ hY3).trans c1
              have f1' : ∀ o, (W3.alloc o).frozen? ⟨Y, 1, none⟩ = false := fun o => (World.frozen?_alloc_past _ _ _ hY3).trans f1
              go_wp2_with fail
              obtain ⟨W4, hW4⟩ : ∃ W4, W4 = W3.alloc (.cells #[.int .i64 id, .slice av n cv, .int .i64 t] 112) := ⟨_, rfl⟩
              have k1 : W4.cell? ⟨Y, 1, none⟩ = some vL := by rw [hW4]; exact c1' _
              have k2 : W4.frozen? ⟨Y, 1, none⟩ = false := by rw [hW4]; exact f1' _
              have hb4 : Below W3.heap.size W3 W4 := by rw [hW4]; exact (Below.refl _ _).alloc (Nat.le_refl _) _
              have hn4 : W4.heap[W3.heap.size]? = some (.cells #[.int .i64 id, .slice av n cv, .int .i64 t] 112 (0, 0)) := by rw [hW4]; exact alloc_new _ _
              have j0 : W4.cell? ⟨W3.heap.size, 0, none⟩ = some (.int .i64 id) := by rw [cell_blk hn4]; rfl
              have j1 : W4.cell? ⟨W3.heap.size, 1, none⟩ = some (.slice av n cv) := by rw [cell_blk hn4]; rfl
              have j2 : W4.cell? ⟨W3.heap.size, 2, none⟩ = some (.int .i64 t) := by rw [cell_blk hn4]; rfl
              have hrow := owns_below' hF1 hb4
              have hobj4 := (hb4.block Y hY3).trans hobj3
              have hY4 := lt_blk hobj4
              have hB4l := lt_blk hn4
              have neY : some Y ≠ vL.ownBlock := fun e => by
                obtain ⟨_, ⟨e1, _⟩ | ⟨g, cap, cur, e1, _, hg, _⟩⟩ := hrow
                · rw [e1] at e; simp [Value.ownBlock] at e
                · rw [e1] at e; simp [Value.ownBlock] at e; subst e
                  rw [hg] at hobj4; injection hobj4 with q; injection q with _ q _; exact absurd q (by decide)
              have neB : some W3.heap.size ≠ vL.ownBlock := fun e => by have := (hF1.lt _ e.symm).2; omega
              have HF2 := hide hF2
              have hT4 := hvT.keep (KeepT.of_below hb4)
              rw [← hW4]
              clear hW4 c1' f1' hF2
              go_region_law ((refine step_append_lies _ (by rfl) _ _ _ (by rfl) 0 112 i1 _ 3 40 Try.underlying67 hi' hz0' hz1' hz2' rfl (by omega) vL L.length _ (by simp [Act.eval]) ((hrow.alloc _).drew) ⟨W4.heap.size, 0, none⟩ 1 1 [.int .i64 id, .slice av n cv, .int .i64 t] (by simp [Act.eval]) (by rfl) (three_new W4 _ _ _ _) (by intro u hu; simp at hu; rcases hu with rfl | rfl | rfl <;> rfl) (by omega) (by unfold maxLen; omega) (by omega) (by simp) (W4.heap.size + 1) (by simp) ?_; intro gg cap W5 hown5 hgrow hat hlt5; have z1 := hgrow.cell ((World.cell?_alloc_past _ _ _ hY4).trans k1) neY; have z2 := (World.frozen?_of_block (hgrow.block Y (by simp; omega) neY)).trans ((World.frozen?_alloc_past _ _ _ hY4).trans k2)))
              all_goals go_wp2
              all_goals go_ret
              all_goals
                have hR4 := hR3.below hb4
                have hTl : TailsI c.slots (L ++ [(id, natsOf n f)]) (fun i => if i = L.length then t else tl i) nt' := by
                  have q := h.tails.push id (natsOf n f)
                  rw [natsOf_len] at q
                  rw [Het.out, Hnt'.out]; exact q
                have hnew := RefI.push hR4 hrow (fun i hi => ⟨(HF2.out i hi).1, (HF2.out i hi).2.1.keep (KeepT.of_below hb4), (HF2.out i hi).2.2⟩) hown5 hgrow hT4 hTl (by omega) (by rw [natsOf_len]; omega) (by rw [natsOf_len]; omega) (by
                  intro x hx
                  unfold natsOf at hx
                  obtain ⟨j, hj, rfl⟩ := List.mem_map.1 hx
                  have := Hgood.out j (List.mem_range.1 hj)
                  unfold badTok at this
                  omega)
                refine ⟨?_, 0, rfl, .inr ⟨rfl, Hno.out, by omega, by omega, by omega, Hgood.out, Hroom.out, _, nt', _, hle3', hnew, ?_, ?_, ?_⟩⟩
                · have o1 : Only (fun k => k = Y ∨ vL.ownBlock = some k) w W4 := ((hO3'.mono (F' := fun k => k = Y ∨ vL.ownBlock = some k) (fun k _ hk => .inl hk)).trans (Only.of_below hb4 (fun k => k = Y ∨ vL.ownBlock = some k)) (fun _ _ h => h))
                  exact (((o1.alloc _).drewN 1).grown hgrow (fun g hg _ => .inr hg)).setCell (fun _ => .inl rfl) _
                · intro k hk
                  simp only [Value.ownBlock] at hk
                  injection hk with hk
                  subst hk
                  rcases hat with hat | hat
                  · exact .inl hat
                  · right; have := hb4.size; omega
                · have e0 : cntT (fun i => if i = L.length then t else tl i) L.length = cntT tl L.length := cntT_congr _ (fun i hi => by rw [if_neg (by omega)])
                  simp only [cntT]
                  rw [e0]
                  simp only [if_true]
                  rw [Het.out]
                  by_cases hm : n % c.slots = 0
                  · simp [hm]
                  · simp only [if_neg hm]; rw [if_pos (by rw [Hnt'.out, if_neg hm]; omega)]
                · intro ok hok hnewb
                  have q3 : SeqsOk ok W3 vL L.length := hok.keep (fun g hg => hO3'.block g (Hgl.out g hg) (HgY.out g hg))
                  refine (SeqsOk.push q3 hF1 hown5 (hvok.mono hnewb)).keep (fun g hg => setCell_far _ _ _ _ _ (fun e => ?_))
                  simp only [Value.ownBlock] at hg
                  injection hg with hg
                  obtain ⟨_, ⟨e1, _⟩ | ⟨g', cap', cur', e1, _, hh', _⟩⟩ := hown5
                  · cases e1
                  · injection e1 with e1 _ _
                    injection e1 with e1
                    injection e1 with e1 _ _
                    have hobj5 : (W4.alloc (.cells #[.int .i64 id, .slice av n cv, .int .i64 t] 112)).drew.heap[Y]? = some (.cells #[.pointer (some ⟨d, 0, none⟩), vL, .slice none 0 0, .int .i64 nt'] 69 (0, 0)) := (alloc_old _ _ _ hY4).trans hobj4
                    have hobj6 := (hgrow.block Y (lt_blk hobj5) neY).trans hobj5
                    rw [← e1, hg, e, hobj6] at hh'
                    injection hh' with hh'; injection hh' with _ hh' _; exact absurd hh' (by decide)
  · go_wp2
    go_ret
    exact ⟨hO1, 2, rfl, .inl ⟨by omega, ⟨nt, by omega, h1, fun _ h => h⟩, .inl ⟨⟨k, hk, hid⟩, rfl⟩⟩⟩

end Go.Proofs.Ytaidjhlijadmiaa

/-
  The reference's decoder, whole: tokens go through, one by one.
-/
namespace Go.Proofs.Ytaidjhlijadmiaa
open Go.RowKit
attribute [local go_sem ↓] Go.wp_at_zero Go.wp_at_succ

theorem Try.info_intss : (Try.prog.info? 62).map (fun i => (i.zero, i.size, i.bytes)) = some (some (.slice none 0 0), 1, 24) := by kernel_rfl

/-- Nothing has been seen yet. -/
theorem seen_none {w w' : World} {s bK bV L m : Nat} (hs : w'.heap[s]? = some (.cells #[.slice (some ⟨bK, 0, none⟩) L L, .slice (some ⟨bV, 0, none⟩) L L, .slice none 0 0] 110 (0, 0)))
    (hK : w'.heap[bK]? = some (.cells (madeCells #[.slice none 0 0] L) 62 (0, 0))) (hV : w'.heap[bV]? = some (.cells (madeCells #[.slice none 0 0] L) 62 (0, 0))) (h1 : w.heap.size ≤ s) (h2 : w.heap.size ≤ bK) (h3 : w.heap.size ≤ bV) (hne : bK ≠ bV) (f : Nat → Nat → Nat → Int) :
    SeenI w.heap.size w' s bK bV L m (.slice none 0 0) (fun _ => .slice none 0 0) (fun _ => 0) (fun _ _ => undef) f := by
  have hc : (madeCells #[Value.slice none 0 0] L).size = L ∧ ∀ l, l < L → (madeCells #[Value.slice none 0 0] L)[l]? = some (.slice none 0 0) := by
    have := World.rowIs_made w (.slice none 0 0) L 0
    obtain ⟨c, e, hz, hq⟩ := this
    rw [alloc_new] at e
    injection e with e
    injection e with e _ _
    rw [e]; exact ⟨hz, hq⟩
  obtain ⟨hsz, hc⟩ := hc
  exact ⟨hs, ⟨_, hK, hsz, hc⟩, ⟨_, hV, hsz, hc⟩, h1, h2, h3, hne, fun r _ => World.ownsRow_nil _ _ _ _, fun r _ t ht => absurd ht (by omega), fun r r' _ _ _ g hg => by simp [Value.ownBlock] at hg⟩

theorem alloc_three (w : World) (a b c : Obj) : (((w.alloc a).alloc b).alloc c).heap[w.heap.size]? = some a ∧ (((w.alloc a).alloc b).alloc c).heap[w.heap.size + 1]? = some b ∧ (((w.alloc a).alloc b).alloc c).heap[w.heap.size + 1 + 1]? = some c := by
  refine ⟨?_, ?_, ?_⟩
  · rw [alloc_old _ _ _ (by simp; omega), alloc_old _ _ _ (by simp), alloc_new]
  · have := alloc_new (w.alloc a) b
    rw [alloc_old _ _ _ (by simp)]; simpa using this
  · have := alloc_new ((w.alloc a).alloc b) c
    simpa using this

/-- A layer's row comes to have what is kept of a position. -/
theorem row_step (c : Cfg) (tk : Nat → Nat) (p l : Nat) : (fun r t => if r = 2 * l ∧ t = p then kNew c l p (xIn c tk p l) else if r = 2 * l + 1 ∧ t = p then vNew c l (xIn c tk p l) else rowOf c tk r t) = rowOf c tk := by
  funext r t
  by_cases h1 : r = 2 * l ∧ t = p
  · obtain ⟨rfl, rfl⟩ := h1
    rw [if_pos ⟨rfl, rfl⟩]; unfold rowOf; rw [if_pos (by omega), show 2 * l / 2 = l by omega]; rfl
  · rw [if_neg h1]
    by_cases h2 : r = 2 * l + 1 ∧ t = p
    · obtain ⟨rfl, rfl⟩ := h2
      rw [if_pos ⟨rfl, rfl⟩]; unfold rowOf; rw [if_neg (by omega), show (2 * l + 1) / 2 = l by omega]; rfl
    · rw [if_neg h2]

theorem x_step (c : Cfg) (tk : Nat → Nat) (p l : Nat) : xNext c l p (xIn c tk p l) (fun t => if t = p then kNew c l p (xIn c tk p l) else rowOf c tk (2 * l) t) (fun t => if t = p then vNew c l (xIn c tk p l) else rowOf c tk (2 * l + 1) t) = xIn c tk p (l + 1) := by
  rw [xIn_succ]
  refine xNext_congr c l p _ (fun t _ => ?_) (fun t _ => ?_)
  · by_cases e : t = p
    · subst e; rw [if_pos rfl]; rfl
    · rw [if_neg e]; unfold rowOf; rw [if_pos (by omega), show 2 * l / 2 = l by omega]
  · by_cases e : t = p
    · subst e; rw [if_pos rfl]; rfl
    · rw [if_neg e]; unfold rowOf; rw [if_neg (by omega), show (2 * l + 1) / 2 = l by omega]

theorem ints_cells {w : World} {a : Option Addr} {n c : Nat} {g : Nat → Int} (h : IntsT w (.slice a n c) n g) (h0 : 0 < n) : ∃ b off, a = some ⟨b, off, none⟩ ∧ b < w.heap.size ∧ ∀ j, j < n → w.cell? ⟨b, off + j, none⟩ = some (.int .i64 (g j)) := by
  obtain ⟨a', c', e, _, _, h3⟩ := h.ints
  injection e with e1 _ _
  subst e1
  exact h3 h0

/-- How far the rows have come in the layers. -/
def cntOf (p l r : Nat) : Nat := if r < 2 * l then p + 1 else p

set_option maxRecDepth 100000 in
set_option maxHeartbeats 4000000 in
theorem refthrough_any (c : Cfg) (hc : c.ok) (d n : Nat) (vt : Value) (tk : Nat → Nat) (w : World) (hd : RefDec w d c) (ht : IntsT w vt n (fun j => (tk j : Int))) (htk : ∀ j, j < n → tk j < c.vocab) (hn : n ≤ 100) :
    Calls Try.prog 53 #[.pointer (some ⟨d, 0, none⟩), vt] w fun e w' =>
      ∃ s bK bV vX rv xs, e = .returned (.pointer (some ⟨s, 0, none⟩)) ∧ SeenI w.heap.size w' s bK bV c.layers c.width vX rv (fun _ => n) xs (rowOf c tk) ∧ (0 < n → IntsT w' vX c.width (xIn c tk (n - 1) c.layers)) ∧ Below w.heap.size w w' := by
  obtain ⟨i0, hi, hz0, hz1, hz2⟩ := info_parts Try.info_int
  obtain ⟨i1, hi', hz0', hz1', hz2'⟩ := info_parts Try.info_intss
  obtain ⟨w1, w2⟩ := c.width_bd hc
  obtain ⟨e1, e2⟩ := hc.layers
  obtain ⟨d1, d2⟩ := hc.vocab
  have hmany := c.many_bd hc
  obtain ⟨vW, g7, gW, g2, g3, g4, g5, g8⟩ := hd.cells
  have hdl := hd.lt
  obtain ⟨at', ct, rfl, ht1, ht2, ht3⟩ := id ht
  have hmk := fun w => run_make (P := Try.prog) w 33 62 i1 _ Try.underlying33 hi' hz0' .i64 .i64 c.layers c.layers (by omega) (Int.le_refl _) (by rw [hz2']; omega) (by omega)
  rw [hz1'] at hmk
  go_enter Try.func53, Try.ntmps53
  go_wp2_with fail
  go_cut [5] from 10 (fun s5 wc => ∃ s bK bV, s5 = .pointer (some ⟨s, 0, none⟩) ∧ SeenI w.heap.size wc s bK bV c.layers c.width (.slice none 0 0) (fun _ => .slice none 0 0) (fun _ => 0) (fun _ _ => undef) (rowOf c tk) ∧ Below w.heap.size w wc)
  case first =>
    go_wp2_with fail
    go_region
    all_goals go_wp2_with fail
    all_goals go_meet
    all_goals have hdz : w.drew.heap.size = w.heap.size := rfl
    · obtain ⟨q0, q1, q2⟩ := alloc_three w.drew (.cells (madeCells #[.slice none 0 0] c.layers) 62) (.cells (madeCells #[.slice none 0 0] c.layers) 62) (.cells #[.slice (some ⟨w.heap.size, 0, none⟩) c.layers c.layers, .slice (some ⟨w.heap.size + 1, 0, none⟩) c.layers c.layers, .slice none 0 0] 110)
      exact ⟨_, _, _, rfl, seen_none q2 q0 q1 (by omega) (by omega) (by omega) (by omega) _, ((((Below.refl _ _).drew).alloc (by simp) _).alloc (by simp) _).alloc (by simp; omega) _⟩
    · obtain ⟨q0, q1, q2⟩ := alloc_three w.drew (.cells (madeCells #[.slice none 0 0] c.layers) 62) (.cells (madeCells #[.slice none 0 0] c.layers) 62) (.cells #[.slice (some ⟨w.heap.size + 1, 0, none⟩) c.layers c.layers, .slice (some ⟨w.heap.size, 0, none⟩) c.layers c.layers, .slice none 0 0] 110)
      exact ⟨_, _, _, rfl, seen_none q2 q1 q0 (by omega) (by omega) (by omega) (by omega) _, ((((Below.refl _ _).drew).alloc (by simp) _).alloc (by simp) _).alloc (by simp; omega) _⟩
  case rest =>
    obtain ⟨s, bK, bV, rfl, hs0, hB0⟩ := hcut
    obtain ⟨aW, cW, rfl, hW1, hW2, hW3⟩ := gW
    clear hmk g3 g4 g5
    have HW := hide hW3
    have Ht3 := hide ht3
    clear hW3 ht3
    go_wp2
    go_loopw [6] (fun i wr => ∃ (p : Nat) (vX : Value) (rv : Nat → Value) (xs : Nat → Nat → Value), p ≤ n ∧ i = .int .i64 p ∧ SeenI w.heap.size wr s bK bV c.layers c.width vX rv (fun _ => p) xs (rowOf c tk) ∧ (0 < p → IntsT wr vX c.width (xIn c tk (p - 1) c.layers)) ∧ Below w.heap.size w wr) (fun i _ => n - (intOf i).toNat)
    case atStart => exact ⟨0, _, _, _, by omega, rfl, hs0, fun h => absurd h (by omega), hB0⟩
    case round =>
      clear hs0 hB0
      obtain ⟨p, vX, rv, xs, hp, rfl, hs, hX, hB⟩ := hrel
      by_cases hlt : p < n
      · obtain ⟨bt, ot, ea, hbt, hct⟩ := ints_cells ht (by omega)
        obtain ⟨bW, oW, ew, hbW, hcW⟩ := HW.out (by unfold Cfg.many; have : 0 < 2 * c.vocab * c.width := Nat.mul_pos (by omega) (by omega); omega)
        have htok := htk p hlt
        have ctok := hct p hlt
        have hrow : ∀ k, k < c.width → tk p * c.width + k < c.many := fun k hk => by
          have h1 : (tk p + 1) * c.width ≤ c.vocab * c.width := Nat.mul_le_mul_right _ htok
          have h2 : c.vocab * c.width ≤ 2 * c.vocab * c.width := Nat.mul_le_mul_right _ (by omega)
          rw [Nat.add_mul] at h1
          unfold Cfg.many; omega
        have Hrow := hide hrow
        have HcW := hide hcW
        clear hrow hcW hct
        have p7 := (hB.cell (p := ⟨d, 7, none⟩) hdl).trans g7
        have p8 := (hB.cell (p := ⟨d, 8, none⟩) hdl).trans g8
        have p2 := (hB.cell (p := ⟨d, 2, none⟩) hdl).trans g2
        have ptok := (hB.cell (p := ⟨bt, ot + p, none⟩) hbt).trans ctok
        have hszB := hB.size
        have l1 : d < wr.heap.size := by omega
        have l2 : bt < wr.heap.size := by omega
        have l3 : bW < wr.heap.size := by omega
        subst ea
        subst ew
        obtain ⟨W1, rfl⟩ : ∃ W1, W1 = wr := ⟨_, rfl⟩
        go_wp2
        go_loopw [7, 8] (fun o i wr => ∃ k : Nat, k ≤ c.width ∧ i = .int .i64 k ∧ wr.ownsRow W1.heap.size 3 1 o k ((List.range k).map fun i => .int .i64 (xIn c tk p 0 i)) ∧ Below W1.heap.size W1 wr) (fun _ i _ => c.width - (intOf i).toNat)
        case atStart => exact ⟨0, Nat.zero_le _, rfl, World.ownsRow_nil _ _ _ _, Below.refl _ _⟩
        case round =>
          obtain ⟨k, hk, rfl, hown, hbel⟩ := hrel
          have hsz := hbel.size
          have r8 := (hbel.cell (p := ⟨d, 8, none⟩) l1).trans p8
          by_cases hk2 : k < c.width
          · obtain ⟨q, hq⟩ : ∃ q : Nat, q = tk p * c.width + k := ⟨_, rfl⟩
            have hqm : q < c.many := by rw [hq]; exact Hrow.out k hk2
            have r7 := (hbel.cell (p := ⟨d, 7, none⟩) l1).trans p7
            have rtok := (hbel.cell (p := ⟨bt, ot + p, none⟩) l2).trans ptok
            have rw0 := (hbel.cell (p := ⟨bW, oW + q, none⟩) l3).trans ((hB.cell (p := ⟨bW, oW + q, none⟩) hbW).trans (HcW.out q hqm))
            have hx0 : xIn c tk p 0 k = cutI (64 * c.weight q) := by rw [hq]; rfl
            have hm0 : (0 : Int) ≤ (tk p : Int) * c.width := Int.mul_nonneg (by omega) (by omega)
            have hq' : (tk p : Int) * c.width + k = q := by rw [hq]; simp
            have hqb : (q : Int) < 2000 := by omega
            have hwr1 : IntKind.i64.wrap ((tk p : Int) * c.width) = (tk p : Int) * c.width := wrap_in (by omega) (by omega)
            have hwr2 : IntKind.i64.wrap ((tk p : Int) * c.width + k) = q := by rw [hq']; exact wrap_in (by omega) (by omega)
            have hwb : -8 ≤ c.weight q ∧ c.weight q ≤ 8 := weightI_bd _ _
            generalize c.weight q = wt at hwb hx0 rw0
            have hwr3 : IntKind.i64.wrap (64 * wt) = 64 * wt := wrap_in (by omega) (by omega)
            have Hx0 := hide hx0
            have i1 : (0 : Int) ≤ (p : Int) := by omega
            have i2 : (p : Int) < (n : Int) := by omega
            have i3 : (0 : Int) ≤ (q : Int) := by omega
            have i4 : (q : Int) < (c.many : Int) := by omega
            have hne : ∀ g, g < W1.heap.size → some g ≠ u7.ownBlock := fun g hg h => by have := (hown.lt g h.symm).1; omega
            clear hx0 hq hq' hwb
            go_wp2
            go_region_held3 (fun w' => w'.cell? ⟨d, 7, none⟩ = some (.slice (some ⟨bW, oW, none⟩) c.many cW) ∧ w'.cell? ⟨d, 8, none⟩ = some (.int .i64 c.width) ∧ w'.cell? ⟨bt, ot + p, none⟩ = some (.int .i64 (tk p)) ∧ w'.cell? ⟨bW, oW + q, none⟩ = some (.int .i64 (wt)))
              (first
                | go_keep
                | (exact ⟨hgrow.cell ((World.cell?_alloc_past _ _ _ (by omega)).trans r7) (hne _ l1), hgrow.cell ((World.cell?_alloc_past _ _ _ (by omega)).trans r8) (hne _ l1), hgrow.cell ((World.cell?_alloc_past _ _ _ (by omega)).trans rtok) (hne _ l2), hgrow.cell ((World.cell?_alloc_past _ _ _ (by omega)).trans rw0) (hne _ l3)⟩))
              (first
                | (go_at_call 71; refine Calls_use (refcut_any _ _) ?_)
                | ((refine step_append_lies _ (by rfl) _ _ _ (by rfl) W1.heap.size 3 i0 _ 1 8 Try.underlying36 hi hz0 hz1 hz2 rfl (by omega) u7 k _ (by rfl) ((hown.alloc _).drew) ⟨wr.heap.size, 0, none⟩ 1 1 [.int .i64 (cutI (64 * wt))] (by rfl) (by rfl) (one_new wr _ _) (one_int _) (by omega) (by unfold maxLen; omega) (by omega) (by simp; omega) (wr.heap.size + 1) (by simp) ?_); intro gg cap w3 hown1 hgrow hat hlt3))
            have hbel' : Below W1.heap.size W1 w3 := ((hbel.alloc hsz _).drew).grown hgrow (by simp; omega) (fun g hg => (hown.lt g hg).1)
            rw [← Hx0.out, ← range_map_succ (fun i => Value.int .i64 (xIn c tk p 0 i))] at hown1
            clear hown hgrow hne
            go_wp2
            go_roundw
            case rel => exact ⟨k + 1, by omega, by go_num, hown1, hbel'⟩
            case measure => simp [intOf]; omega
          · have hke : k = c.width := by omega
            subst hke
            have hx := IntsT.of_owns hown
            have hB2 := hB.trans (hbel.mono hszB)
            have hs2 := hs.below hbel
            obtain ⟨W2, rfl⟩ : ∃ W2, W2 = wr := ⟨_, rfl⟩
            clear hown hs p2 p7 p8 ptok hX
            go_wp2
            go_loopw [7, 9] (fun x i wr => ∃ (l : Nat) (rv : Nat → Value) (xs : Nat → Nat → Value), l ≤ c.layers ∧ i = .int .i64 l ∧ IntsT wr x c.width (xIn c tk p l) ∧ SeenI w.heap.size wr s bK bV c.layers c.width vX rv (cntOf p l) xs (rowOf c tk) ∧ Below w.heap.size w wr) (fun _ i _ => c.layers - (intOf i).toNat)
            case atStart => exact ⟨0, _, _, by omega, rfl, hx, hs2.congr (fun r _ => by unfold cntOf; simp) (fun _ _ _ _ => rfl), hB2⟩
            case round =>
              clear hx hs2 hB2 hbel hsz r8
              obtain ⟨l, rv2, xs2, hl, rfl, hx, hs, hB2⟩ := hrel
              have p2 := (hB2.cell (p := ⟨d, 2, none⟩) hdl).trans g2
              by_cases hl2 : l < c.layers
              · have hcall := reflayer_any c hc w wr d s bK bV p l u7 vX (xIn c tk p l) rv2 (cntOf p l) xs2 (rowOf c tk) hd hB2 hs hl2 (by unfold cntOf; rw [if_neg (by omega)]) (by unfold cntOf; rw [if_neg (by omega)]) hx (xIn_bd _ _ _ _) (rowOf_bd _ _) (by omega)
                rw [row_step, x_step] at hcall
                have Hcall := hide hcall
                clear hcall
                go_wp2_with fail
                refine Hcall.out.mono ?_
                rintro e W4 ⟨r, rv3, xs3, rfl, hB4, hs4, hr⟩
                clear Hcall
                go_wp2
                go_roundw
                case rel =>
                  refine ⟨l + 1, rv3, xs3, by omega, by go_num, hr, hs4.congr (fun r _ => ?_) (fun _ _ _ _ => rfl), hB4⟩
                  unfold cntOf
                  by_cases h1 : r = 2 * l ∨ r = 2 * l + 1
                  · rw [if_pos h1, if_pos (by omega)]
                  · rw [if_neg h1]
                    by_cases h2 : r < 2 * l
                    · rw [if_pos h2, if_pos (by omega)]
                    · rw [if_neg h2, if_neg (by omega)]
                case measure => simp [intOf]; omega
              · have hle : l = c.layers := by omega
                subst hle
                obtain ⟨ax, cx, ex, _⟩ := id hx
                subst ex
                obtain ⟨q1, q2⟩ := hs.setX (.slice ax c.width cx)
                have f2 := frozen_blk hs.seen 2
                have c2 : wr.cell? ⟨s, 2, none⟩ = some vX := by rw [cell_blk hs.seen]; rfl
                have hsb := hs.bs
                have hsl := lt_blk hs.seen
                go_wp2
                go_roundw
                case rel => exact ⟨p + 1, _, _, _, by omega, by go_num, q1.congr (fun r hr => by unfold cntOf; rw [if_pos (by omega)]) (fun _ _ _ _ => rfl), fun _ => hx.keep q2, hB2.setCell hsb _⟩
                case measure => simp [intOf]; omega
      · have hpn : p = n := by omega
        subst hpn
        go_wp2
        go_ret
        exact ⟨s, bK, bV, vX, rv, xs, rfl, hs, hX, hB⟩

end Go.Proofs.Ytaidjhlijadmiaa
