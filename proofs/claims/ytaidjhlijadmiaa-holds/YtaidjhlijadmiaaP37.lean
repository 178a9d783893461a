import Derived.Deep.RegionLaw
import Derived.Test.YtaidjhlijadmiaaP34
import Derived.Test.YtaidjhlijadmiaaP36

/-
  The program's hoard, whole: what it holds, and where.
-/
namespace Go.Proofs.Ytaidjhlijadmiaa
open Go.RowKit

/-- The types of blocks that a hoard writes into. -/
def mutT (e : TypeId) : Prop := e = 83 ∨ e = 120 ∨ e = 78 ∨ e = 90 ∨ e = 80

theorem immT.notMut {e : TypeId} (h : immT e) : ¬ mutT e := fun hm => by
  obtain ⟨h1, h2, h3, h4, h5⟩ := h.ne
  rcases hm with q | q | q | q | q
  · exact h1 q
  · exact h2 q
  · exact h3 q
  · exact h4 q
  · exact h5 q

structure HoardI (ok : Nat → Prop) (K : Nat) (w : World) (g : Parts) (c : Cfg) (nf : Nat) (free : Nat → Nat) (N : List Nat → Option (Nat × Nat)) (Mm : List Nat → Option Nat) (V : List Nat → Option Nat) (L : List (Int × List Nat)) (sv : Nat → Value) (blk : Nat → Nat → Nat) : Prop where
  store : StoreI ok K w g c nf free N Mm V
  seqs : MapV Try.prog 3 w g.SM L.length (seqAt L sv)
  seq : ∀ i, i < L.length → SeqI ok w (sv i) c (toksAt L i) (nbOf c.slots (toksAt L i).length) (blk i)
  apart : ∀ i, i < L.length → (sv i).ownBlock ≠ some g.FB
  used : ∀ i, i < L.length → ∀ j, j < nbOf c.slots (toksAt L i).length → ∀ m, m < nf → free m ≠ blk i j
  len : ∀ i, i < L.length → 1 ≤ (toksAt L i).length ∧ (toksAt L i).length ≤ 40
  toks : ∀ i, i < L.length → ∀ t ∈ toksAt L i, t < c.vocab
  told : ∀ p, (V p).isSome = true ↔ p ∈ usedOf c.slots (toksOf L)

/-- The blocks of a hoard. -/
def HFoot (g : Parts) (c : Cfg) (nf : Nat) (free : Nat → Nat) (N : List Nat → Option (Nat × Nat)) (Mm : List Nat → Option Nat) (V : List Nat → Option Nat) (L : List (Int × List Nat)) (sv : Nat → Value) (blk : Nat → Nat → Nat) (k : Nat) : Prop :=
  StoreF g nf free N Mm V k ∨ k = g.SM ∨ (∃ i, i < L.length ∧ (sv i).ownBlock = some k) ∨ ∃ i j, i < L.length ∧ j < nbOf c.slots (toksAt L i).length ∧ k = blk i j

theorem SeqI.keepA {ok : Nat → Prop} {w w' : World} {v : Value} {c : Cfg} {T : List Nat} {nb : Nat} {blk : Nat → Nat} (h : SeqI ok w v c T nb blk) (h1 : ∀ b, v.ownBlock = some b → w'.heap[b]? = w.heap[b]?) (h2 : ∀ j, j < nb → w'.heap[blk j]? = w.heap[blk j]?) (hk : ∀ e, immT e → KeepT e w w') : SeqI ok w' v c T nb blk := by
  obtain ⟨⟨b, cap, arr, fr, e, q1, q2, q3, q4⟩, h3⟩ := h
  refine ⟨⟨b, cap, arr, fr, e, q1, q2, (h1 b (by rw [e]; rfl)).trans q3, q4⟩, fun i hi => (h3 i hi).keep (h2 i hi) hk⟩

theorem SeqI.ty {ok : Nat → Prop} {w : World} {v : Value} {c : Cfg} {T : List Nat} {nb : Nat} {blk : Nat → Nat} (h : SeqI ok w v c T nb blk) {b : Nat} (hb : v.ownBlock = some b) : ∃ arr fr, w.heap[b]? = some (.cells arr 78 fr) := by
  obtain ⟨⟨b', cap, arr, fr, e, q1, q2, q3, q4⟩, h3⟩ := h
  rw [e] at hb
  injection hb with hb
  subst hb
  exact ⟨_, _, q3⟩

section
variable {ok : Nat → Prop} {K : Nat} {w w' : World} {g : Parts} {c : Cfg} {nf : Nat} {free : Nat → Nat} {N : List Nat → Option (Nat × Nat)} {Mm : List Nat → Option Nat} {V : List Nat → Option Nat} {L : List (Int × List Nat)} {sv : Nat → Value} {blk : Nat → Nat → Nat}

theorem HoardI.keep (h : HoardI ok K w g c nf free N Mm V L sv blk) (hF : ∀ k, HFoot g c nf free N Mm V L sv blk k → w'.heap[k]? = w.heap[k]?) (hk : ∀ e, immT e → KeepT e w w') : HoardI ok K w' g c nf free N Mm V L sv blk :=
  ⟨h.store.keepA (fun k q => hF k (.inl q)) hk, h.seqs.keep (hF _ (.inr (.inl rfl))), fun i hi => (h.seq i hi).keepA (fun b hb => hF b (.inr (.inr (.inl ⟨i, hi, hb⟩)))) (fun j hj => hF _ (.inr (.inr (.inr ⟨i, j, hi, hj, rfl⟩)))) hk, h.apart, h.used, h.len, h.toks, h.told⟩

theorem HoardI.kindF (h : HoardI ok K w g c nf free N Mm V L sv blk) {k : Nat} (hk : HFoot g c nf free N Mm V L sv blk k) {cur : Array Value} {e : TypeId} {fr : Nat × Nat} (hh : w.heap[k]? = some (.cells cur e fr)) : mutT e := by
  rcases hk with hk | hk | ⟨i, hi, hk⟩ | ⟨i, j, hi, hj, hk⟩
  · rcases h.store.kindF hk hh with q | q | ⟨q, _⟩ | q | q
    · exact .inl q
    · exact .inr (.inl q)
    · exact .inr (.inr (.inl q))
    · exact .inr (.inr (.inr (.inr q)))
    · exact .inr (.inr (.inr (.inl q)))
  · obtain ⟨es, cl, q⟩ := h.seqs.obj
    rw [hk, q] at hh; cases hh
  · obtain ⟨arr, fr', q⟩ := (h.seq i hi).ty hk
    rw [q] at hh; injection hh with hh; injection hh with _ hh _; exact .inr (.inr (.inl hh.symm))
  · obtain ⟨u, q⟩ := ((h.seq i hi).2 j hj).ty
    rw [hk, q] at hh; injection hh with hh; injection hh with _ hh _; exact .inr (.inr (.inr (.inl hh.symm)))

theorem HoardI.ltF (h : HoardI ok K w g c nf free N Mm V L sv blk) {k : Nat} (hk : HFoot g c nf free N Mm V L sv blk k) : k < w.heap.size := by
  rcases hk with hk | hk | ⟨i, hi, hk⟩ | ⟨i, j, hi, hj, hk⟩
  · exact h.store.ltF hk
  · rw [hk]; exact h.seqs.lt
  · obtain ⟨arr, fr', q⟩ := (h.seq i hi).ty hk
    exact lt_blk q
  · obtain ⟨u, q⟩ := ((h.seq i hi).2 j hj).ty
    rw [hk]; exact lt_blk q

theorem HoardI.read (h : HoardI ok K w g c nf free N Mm V L sv blk) : ReadI ok w g c L sv blk := ⟨h.store.obj, h.store.model.model, h.seqs, h.seq, h.len, h.toks⟩

theorem seqAt_snoc {id : Int} {T : List Nat} {v : Value} (hno : ∀ i, i < L.length → idAt L i ≠ id) :
    seqAt (L ++ [(id, T)]) (fun i => if i = L.length then v else sv i) = fun y => if y = id then some v else seqAt L sv y := by
  funext y
  unfold seqAt
  rw [List.findIdx?_append]
  by_cases e : y = id
  · subst e
    have : L.findIdx? (fun x => x.1 == y) = none := by
      rw [List.findIdx?_eq_none_iff]
      intro x hx
      obtain ⟨i, hi, e⟩ := List.getElem_of_mem hx
      have := hno i hi
      unfold idAt at this
      rw [List.getD_eq_getElem?_getD] at this
      simp [hi, e] at this
      simpa using this
    rw [this]
    simp [List.findIdx?_cons]
  · simp only [if_neg e]
    cases hx : L.findIdx? (fun x => x.1 == y) with
    | none => simp [List.findIdx?_cons, Ne.symm e]
    | some k =>
      have hk : k < L.length := by
        rw [List.findIdx?_eq_some_iff_getElem] at hx
        exact hx.1
      simp
      omega

theorem usedOf_more (s : Nat) (hs : 1 ≤ s) (L : List (Int × List Nat)) (id : Int) (T : List Nat) :
    (usedOf s (toksOf (L ++ [(id, T)]))).length = (usedOf s (toksOf L)).length + newTo (usedOf s (toksOf L)) (wholesOf s T) (T.length / s) ∧
    ∀ p, p ∈ usedOf s (toksOf (L ++ [(id, T)])) ↔ p ∈ usedOf s (toksOf L) ∨ ∃ j, (j + 1) * s ≤ T.length ∧ p = T.take ((j + 1) * s) := by
  have e : toksOf (L ++ [(id, T)]) = toksOf L ++ [T] := by unfold toksOf; simp
  have hl := wholesOf_len s T
  obtain ⟨q1, q2⟩ := addAll_count (usedOf s (toksOf L)) (wholesOf s T) (wholesOf_apart s T hs) (wholesOf s T).length (Nat.le_refl _)
  rw [List.take_length] at q1 q2
  rw [e, usedOf_snoc]
  refine ⟨by rw [q1, hl], fun p => ?_⟩
  rw [q2, hl]
  have fit : ∀ j, j < T.length / s ↔ (j + 1) * s ≤ T.length := fun j => by
    rw [Nat.lt_iff_add_one_le, Nat.le_div_iff_mul_le (by omega)]
  have get : ∀ j, j < T.length / s → (wholesOf s T).getD j [] = T.take ((j + 1) * s) := fun j hj => by
    rw [List.getD_eq_getElem?_getD]; unfold wholesOf; simp [hj]
  constructor
  · rintro (q | ⟨i, hi, q⟩)
    · exact .inl q
    · exact .inr ⟨i, (fit i).1 hi, by rw [← q, get i hi]⟩
  · rintro (q | ⟨i, hi, q⟩)
    · exact .inl q
    · exact .inr ⟨i, (fit i).2 hi, by rw [q, get i ((fit i).2 hi)]⟩

/-- One sequence more. -/
theorem HoardI.push {w1 w2 : World} {T : List Nat} {id : Int} {v : Value} {blk1 : Nat → Nat} {K' : Nat} {N' : List Nat → Option (Nat × Nat)} {M' V' : List Nat → Option Nat} (h : HoardI ok K w g c nf free N Mm V L sv blk) (hs : 1 ≤ c.slots)
    (hP : LayP ok w w1 g c nf free N Mm V T (nbOf c.slots T.length) (nbOf c.slots T.length) v blk1 K' N' M' V') (hT1 : 1 ≤ T.length) (hT2 : T.length ≤ 40) (hT3 : ∀ t ∈ T, t < c.vocab) (hno : ∀ i, i < L.length → idAt L i ≠ id)
    (hm : MapV Try.prog 3 w2 g.SM (L.length + 1) (fun y => if y = id then some v else seqAt L sv y)) (hg : w1.grownBy w2 (some g.SM)) :
    HoardI ok K' w2 g c (nf - anewTo c V T (nbOf c.slots T.length)) free N' M' V' (L ++ [(id, T)]) (fun i => if i = L.length then v else sv i) (fun i => if i = L.length then blk1 else blk i) ∧
    Only (HFoot g c nf free N Mm V L sv blk) w w2 ∧ (∀ e, ¬ mutT e → KeepT e w w2) ∧
    ∀ k, HFoot g c (nf - anewTo c V T (nbOf c.slots T.length)) free N' M' V' (L ++ [(id, T)]) (fun i => if i = L.length then v else sv i) (fun i => if i = L.length then blk1 else blk i) k → HFoot g c nf free N Mm V L sv blk k ∨ w.heap.size ≤ k := by
  have hnb : 0 < nbOf c.slots T.length := (nbOf_lt hs).2 (by omega)
  obtain ⟨es, cl, hsm⟩ := h.seqs.obj
  have hsmF : ¬ StoreF g nf free N Mm V g.SM := h.store.smF ⟨es, cl, hsm⟩
  have hsm1 : w1.heap[g.SM]? = some (.map es cl) := (hP.only.block _ (lt_blk hsm) (fun hx => hsmF (hx.store V))).trans hsm
  have hsmF1 := hP.store.smF ⟨es, cl, hsm1⟩
  have ho12 : Only (fun k => k = g.SM) w1 w2 := (Only.refl _ _).grown hg (fun b hb _ => by injection hb with hb; exact hb.symm)
  have hcell : ∀ k cur e fr, w1.heap[k]? = some (Obj.cells cur e fr) → w2.heap[k]? = w1.heap[k]? := fun k cur e fr q => ho12.block k (lt_blk q) (fun hh => by rw [hh, hsm1] at q; cases q)
  have hk12 : ∀ e : TypeId, KeepT e w1 w2 := fun e k cur fr q => (hcell k cur e fr q).trans q
  have ho1 : Only (HFoot g c nf free N Mm V L sv blk) w w1 := hP.only.mono (fun k _ hk => .inl (hk.store V))
  have hk01 : ∀ e, ¬ mutT e → KeepT e w w1 := fun e he => ho1.keep (fun k cur fr hk hh => he (h.kindF hk hh))
  have hi01 : ∀ e, immT e → KeepT e w w1 := fun e he => hk01 e he.notMut
  have ho2 : Only (HFoot g c nf free N Mm V L sv blk) w w2 := ho1.trans ho12 (fun k _ hk => .inr (.inl hk))
  have hFB : g.FB < w.heap.size := h.store.ltF (.inr (.inr (.inl rfl)))
  obtain ⟨es', hrow⟩ : ∃ b, v.ownBlock = some b ∧ w.heap.size ≤ b := by
    rcases hP.row.seq with ⟨e, _⟩ | ⟨_, q⟩
    · omega
    · exact q
  have hseq1 : SeqI ok w1 v c T (nbOf c.slots T.length) blk1 := by
    rcases hP.row.seq with ⟨e, _⟩ | ⟨q, _⟩
    · omega
    · exact q
  have hseqK : ∀ i, i < L.length → SeqI ok w2 (sv i) c (toksAt L i) (nbOf c.slots (toksAt L i).length) (blk i) := fun i hi => by
    have q := h.seq i hi
    have q1 : SeqI ok w1 (sv i) c (toksAt L i) (nbOf c.slots (toksAt L i).length) (blk i) := q.keepA (fun b hb => by
      obtain ⟨arr, fr, q0⟩ := q.ty hb
      refine hP.only.block b (lt_blk q0) (fun hx => ?_)
      rcases h.store.kindF (hx.store V) q0 with e | e | ⟨_, e⟩ | e | e
      · exact absurd e (by decide)
      · exact absurd e (by decide)
      · exact h.apart i hi (by rw [hb, e])
      · exact absurd e (by decide)
      · exact absurd e (by decide)) (fun j hj => by
      obtain ⟨u, q0⟩ := (q.2 j hj).ty
      refine hP.only.block _ (lt_blk q0) (fun hx => ?_)
      obtain ⟨parr, r0, _⟩ := h.store.pool.row
      rcases hx with hx | hx | hx | ⟨m, hm, hx⟩
      · exact blk_ne q0 h.store.pool.obj (by decide) hx
      · exact blk_ne q0 r0 (by decide) hx
      · exact h.store.tree.foot_ne hx q0 (by decide) (by decide) rfl
      · exact h.used i hi j hj m hm hx.symm) hi01
    exact q1.keepA (fun b hb => by obtain ⟨arr, fr, q0⟩ := q1.ty hb; exact hcell _ _ _ _ q0) (fun j hj => by obtain ⟨u, q0⟩ := (q1.2 j hj).ty; exact hcell _ _ _ _ q0) (fun e _ => hk12 e)
  obtain ⟨uc, um⟩ := usedOf_more c.slots hs L id T
  have hlen : (L ++ [(id, T)]).length = L.length + 1 := by simp
  have old : ∀ i, i < L.length → toksAt (L ++ [(id, T)]) i = toksAt L i := fun i hi => (idAt_snoc L (id, T) i hi).2
  have last : toksAt (L ++ [(id, T)]) L.length = T := (idAt_last L (id, T)).2
  refine ⟨⟨hP.store.keepA (fun k hk => ho12.block k (hP.store.ltF hk) (fun hh => hsmF1 (hh ▸ hk))) (fun e _ => hk12 e), by rw [hlen, seqAt_snoc hno]; exact hm, fun i hi => ?_, fun i hi => ?_, fun i hi j hj m hm => ?_, fun i hi => ?_, fun i hi => ?_, fun p => ?_⟩, ho2, fun e he => (hk01 e he).trans (hk12 e), fun k hk => ?_⟩
  · rw [hlen] at hi
    by_cases e : i = L.length
    · subst e
      simp only [if_true, last]
      exact hseq1.keepA (fun b hb => by obtain ⟨arr, fr, q0⟩ := hseq1.ty hb; exact hcell _ _ _ _ q0) (fun j hj => by obtain ⟨u, q0⟩ := (hseq1.2 j hj).ty; exact hcell _ _ _ _ q0) (fun e _ => hk12 e)
    · simp only [if_neg e, old i (by omega)]
      exact hseqK i (by omega)
  · rw [hlen] at hi
    by_cases e : i = L.length
    · simp only [if_pos e]
      rw [hrow.1]
      intro q
      injection q with q
      omega
    · simp only [if_neg e]; exact h.apart i (by omega)
  · rw [hlen] at hi
    by_cases e : i = L.length
    · subst e
      simp only [if_true]
      rw [last] at hj
      exact hP.used j hj m hm
    · simp only [if_neg e]
      rw [old i (by omega)] at hj
      exact h.used i (by omega) j hj m (by omega)
  · rw [hlen] at hi
    by_cases e : i = L.length
    · subst e; rw [last]; exact ⟨hT1, hT2⟩
    · rw [old i (by omega)]; exact h.len i (by omega)
  · rw [hlen] at hi
    by_cases e : i = L.length
    · subst e; rw [last]; exact hT3
    · rw [old i (by omega)]; exact h.toks i (by omega)
  · rw [hP.told p, um p, h.told p]
    constructor
    · rintro (q | ⟨j, hj, q⟩)
      · exact .inl q
      · exact .inr ⟨j, q⟩
    · rintro (q | ⟨j, q1, q2⟩)
      · exact .inl q
      · exact .inr ⟨j, (nbOf_lt hs).2 (by rw [Nat.add_mul] at q1; omega), q1, q2⟩
  · rcases hk with (hk | hk | hk | hk | ⟨i, hi, hk⟩ | ⟨p, hp⟩) | hk | ⟨i, hi, hk⟩ | ⟨i, j, hi, hj, hk⟩
    · exact .inl (.inl (.inl hk))
    · exact .inl (.inl (.inr (.inl hk)))
    · exact .inl (.inl (.inr (.inr (.inl hk))))
    · rcases hP.foot k hk with q | q
      · exact .inl (.inl (.inr (.inr (.inr (.inl q)))))
      · exact .inr q
    · exact .inl (.inl (.inr (.inr (.inr (.inr (.inl ⟨i, by omega, hk⟩))))))
    · rcases hP.from' p k hp with q | ⟨j, hj, q⟩
      · exact .inl (.inl (.inr (.inr (.inr (.inr (.inr ⟨p, q⟩))))))
      · exact .inl (.inl (.inr (.inr (.inr (.inr (.inl ⟨j, hj, q⟩))))))
    · exact .inl (.inr (.inl hk))
    · rw [hlen] at hi
      by_cases e : i = L.length
      · simp only [if_pos e] at hk
        rw [hrow.1] at hk
        injection hk with hk
        exact .inr (by have := hrow.2; omega)
      · simp only [if_neg e] at hk
        exact .inl (.inr (.inr (.inl ⟨i, by omega, hk⟩)))
    · rw [hlen] at hi
      by_cases e : i = L.length
      · subst e
        simp only [if_true] at hk
        rw [last] at hj
        rcases hP.blks j hj with ⟨p, q⟩ | ⟨m, hm, q⟩
        · exact .inl (.inl (.inr (.inr (.inr (.inr (.inr ⟨p, by rw [hk]; exact q⟩))))))
        · exact .inl (.inl (.inr (.inr (.inr (.inr (.inl ⟨m, hm, by rw [hk]; exact q⟩))))))
      · simp only [if_neg e] at hk
        rw [old i (by omega)] at hj
        exact .inl (.inr (.inr (.inr ⟨i, j, by omega, hj, hk⟩)))
end

end Go.Proofs.Ytaidjhlijadmiaa

/-
  The program's Create.
-/
namespace Go.Proofs.Ytaidjhlijadmiaa
open Go.RowKit
attribute [local go_sem ↓] Go.wp_at_zero Go.wp_at_succ

/-- A hoard of the program's: its parts, its sequences, how many tails it has; its blocks are among F. -/
def Held (ok : Nat → Prop) (w : World) (g : Parts) (c : Cfg) (L : List (Int × List Nat)) (nt : Nat) (F : Nat → Prop) : Prop :=
  ∃ K nf free N Mm V sv blk, HoardI ok K w g c nf free N Mm V L sv blk ∧ nf + (usedOf c.slots (toksOf L)).length + nt = c.blocks ∧ ∀ k, HFoot g c nf free N Mm V L sv blk k → F k

/-- What Create has done. -/
def Created (ok : Nat → Prop) (g : Parts) (n : Nat) (c : Cfg) (id : Int) (f : Nat → Int) (L : List (Int × List Nat)) (nt : Nat) (F : Nat → Prop) (w : World) (e : Ending) (w' : World) : Prop :=
  ∃ code : Nat, e = .returned (.int .i64 code) ∧
    ((code ≠ 0 ∧ (∃ q, w' = w.drewN q) ∧
       ((∃ i, i < L.length ∧ idAt L i = id) ∧ code = 2 ∨ (∀ i, i < L.length → idAt L i ≠ id) ∧ ((8 ≤ L.length ∨ n = 0) ∧ code = 1 ∨ ¬ (8 ≤ L.length ∨ n = 0) ∧ ((∃ j, j < n ∧ badTok c.vocab (f j)) ∧ code = 4 ∨ (∀ j, j < n → ¬ badTok c.vocab (f j)) ∧ (40 < n ∧ code = 5 ∨
         n ≤ 40 ∧ c.blocks < needOf c.slots (usedOf c.slots (toksOf L)) (natsOf n f) + ((usedOf c.slots (toksOf L)).length + nt) ∧ code = 6))))) ∨
     (code = 0 ∧ (∀ i, i < L.length → idAt L i ≠ id) ∧ L.length < 8 ∧ 1 ≤ n ∧ n ≤ 40 ∧ (∀ j, j < n → ¬ badTok c.vocab (f j)) ∧ needOf c.slots (usedOf c.slots (toksOf L)) (natsOf n f) + ((usedOf c.slots (toksOf L)).length + nt) ≤ c.blocks ∧
       Only F w w' ∧ (∀ e, ¬ mutT e → KeepT e w w') ∧ Held ok w' g c (L ++ [(id, natsOf n f)]) (nt + if n % c.slots = 0 then 0 else 1) (fun k => F k ∨ w.heap.size ≤ k)))

set_option maxRecDepth 100000 in
set_option maxHeartbeats 2000000 in
theorem create_any (ok : Nat → Prop) (g : Parts) (n : Nat) (c : Cfg) (hc : c.ok) (id : Int) (f : Nat → Int) (vt : Value) (L : List (Int × List Nat)) (nt : Nat) (F : Nat → Prop) (w : World) (h : Held ok w g c L nt F) (hid : -9223372036854775808 ≤ id ∧ id ≤ 9223372036854775807) (ht : IntsT w vt n f) (hok : ∀ b, w.heap.size ≤ b → ok b) (hL : L.length ≤ 8) :
    Calls Try.prog 13 #[.pointer (some ⟨g.X, 0, none⟩), .int .i64 id, vt] w fun e w' => Created ok g n c id f L nt F w e w' := by
  obtain ⟨K, nf, free, N, Mm, V, sv, blk, hI, hcnt, hF⟩ := h
  obtain ⟨arr, o0, o1, o2, o3, o4, o5, o6, o7⟩ := hI.store.obj
  obtain ⟨s1, s2⟩ := hc.slots
  have c5 : w.cell? ⟨g.X, 5, none⟩ = some (.int .i64 c.vocab) := by rw [cell_blk o0]; exact o4
  have c8 : w.cell? ⟨g.X, 8, none⟩ = some (.pointer (some ⟨g.PL, 0, none⟩)) := by rw [cell_blk o0]; exact o6
  have c12 : w.cell? ⟨g.X, 12, none⟩ = some (.map (some g.SM)) := by rw [cell_blk o0]; exact o7
  have hlook := hI.read.look id hid
  have hlen := fun ty => hI.seqs.len Try.underlying81 ty
  have ht0 := ht
  obtain ⟨at', ct, rfl, ht1, ht2, _⟩ := ht0
  unfold maxLen at ht2
  have hcf := containsfunc_any g.X n c hc _ f w c5 ht.ints
  have Hcf := hide hcf
  have Hcnt := hide hcnt
  clear hcf hcnt
  by_cases hex : ∃ i, i < L.length ∧ idAt L i = id
  · have hsome : (seqAt L sv id).isSome = true := by
      cases hq : seqAt L sv id with
      | some _ => rfl
      | none =>
        obtain ⟨i, hi, e⟩ := hex
        unfold seqAt at hq
        have hn : L.findIdx? (fun x => x.1 == id) = none := by simpa using hq
        rw [List.findIdx?_eq_none_iff] at hn
        have := hn (L[i]) (List.getElem_mem hi)
        unfold idAt at e
        rw [List.getD_eq_getElem?_getD] at e
        simp [hi] at e
        simp [e] at this
    rw [hsome] at hlook
    go_enter Try.func13, Try.ntmps13
    go_wp2
    go_ret
    exact ⟨2, rfl, .inl ⟨by omega, ⟨0, rfl⟩, .inl ⟨hex, rfl⟩⟩⟩
  · have hno : ∀ i, i < L.length → idAt L i ≠ id := fun i hi e => hex ⟨i, hi, e⟩
    have Hno := hide hno
    rw [seqAt_none hno] at hlook
    simp only [Option.getD_none, Option.isSome_none] at hlook
    clear hex hno
    by_cases h8 : 8 ≤ L.length
    · go_enter Try.func13, Try.ntmps13
      go_wp2
      go_ret
      exact ⟨1, rfl, .inl ⟨by omega, ⟨0, rfl⟩, .inr ⟨Hno.out, .inl ⟨.inl h8, rfl⟩⟩⟩⟩
    by_cases hn0 : n = 0
    · subst hn0
      have e0 : (((0 : Nat) : Int) == 0) = true := rfl
      go_enter Try.func13, Try.ntmps13
      go_wp2
      go_ret
      exact ⟨1, rfl, .inl ⟨by omega, ⟨0, rfl⟩, .inr ⟨Hno.out, .inl ⟨.inr rfl, rfl⟩⟩⟩⟩
    have en : ((n : Int) == 0) = false := by simp; omega
    have h8n : ¬ (8 ≤ L.length ∨ n = 0) := by omega
    have Hn0 := hide hn0
    have H8n := hide h8n
    clear hn0 h8n
    by_cases hbad : ∃ j, j < n ∧ badTok c.vocab (f j)
    · have Hbad := hide hbad
      have Hcf2 : Hid (Calls Try.prog 32 #[.slice at' n ct, .func (.func 33) #[.pointer (some ⟨g.X, 0, none⟩)] #[]] w fun e w' => e = .returned (.bool true) ∧ w' = w) := Hcf.out.mono (fun e w' ⟨q, r⟩ => by
        rcases q with ⟨q, _⟩ | ⟨_, q⟩
        · exact ⟨q, r⟩
        · obtain ⟨j, hj, hb⟩ := Hbad.out; exact absurd hb (q j hj))
      clear hbad Hcf
      go_enter Try.func13, Try.ntmps13
      go_wp2_with (go_at_call 32; refine Hcf2.out.mono ?_; rintro e w1 ⟨rfl, rfl⟩)
      go_ret
      exact ⟨4, rfl, .inl ⟨by omega, ⟨0, rfl⟩, .inr ⟨Hno.out, .inr ⟨H8n.out, .inl ⟨Hbad.out, rfl⟩⟩⟩⟩⟩
    have hgood : ∀ j, j < n → ¬ badTok c.vocab (f j) := fun j hj hb => hbad ⟨j, hj, hb⟩
    have Hgood := hide hgood
    have Hcf2 : Hid (Calls Try.prog 32 #[.slice at' n ct, .func (.func 33) #[.pointer (some ⟨g.X, 0, none⟩)] #[]] w fun e w' => e = .returned (.bool false) ∧ w' = w) := Hcf.out.mono (fun e w' ⟨q, r⟩ => by
        rcases q with ⟨_, j, hj, hb⟩ | ⟨q, _⟩
        · exact absurd hb (Hgood.out j hj)
        · exact ⟨q, r⟩)
    clear hbad hgood Hcf
    by_cases h40 : 40 < n
    · go_enter Try.func13, Try.ntmps13
      go_wp2_with (go_at_call 32; refine Hcf2.out.mono ?_; rintro e w1 ⟨rfl, rfl⟩)
      go_ret
      exact ⟨5, rfl, .inl ⟨by omega, ⟨0, rfl⟩, .inr ⟨Hno.out, .inr ⟨H8n.out, .inr ⟨Hgood.out, .inl ⟨h40, rfl⟩⟩⟩⟩⟩⟩
    have hTT : TokT w (.slice at' n ct) (natsOf n f) := by
      unfold TokT
      rw [natsOf_len]
      exact ht.congr (fun j hj => (natsOf_tk n f j hj (by have := Hgood.out j hj; unfold badTok at this; omega)).symm)
    have hvoc : ∀ t ∈ natsOf n f, t < c.vocab := fun t hx => by
      unfold natsOf at hx
      obtain ⟨j, hj, rfl⟩ := List.mem_map.1 hx
      have := Hgood.out j (List.mem_range.1 hj)
      unfold badTok at this
      omega
    obtain ⟨T, eT⟩ : ∃ T, T = natsOf n f := ⟨_, rfl⟩
    rw [← eT] at hTT hvoc
    have hTl : T.length = n := by rw [eT, natsOf_len]
    have HeT := hide eT
    clear eT
    obtain ⟨v1, v2⟩ := hc.vocab
    have hneed := need_eq c V (usedOf c.slots (toksOf L)) T s1 (fun j _ => hI.told _)
    have hcn := Hcnt.out
    have hnd := fun q => needed_any ok K g c hc nf free N Mm V T (.slice at' n ct) (w.drewN q) (hI.store.drewN q) hTT (fun t ht => by have := hvoc t ht; omega) (by omega)
    have hpf := fun q => poolfree_any g.PL g.FB nf g.cap free (w.drewN q) (hI.store.drewN q).pool
    by_cases hfull : nf < anewTo c V T (nbOf c.slots T.length)
    · have Hnd := hide hnd
      have Hpf := hide hpf
      have Hfull := hide hfull
      clear hnd hpf
      generalize anewTo c V T (nbOf c.slots T.length) = need at *
      go_enter Try.func13, Try.ntmps13
      go_wp2_with (go_at_call 32; refine Hcf2.out.mono ?_; rintro e w1 ⟨rfl, rfl⟩)
      go_quiet (first | (go_at_call 34; exact Calls.quiet_of (Hnd.out _)) | (go_at_call 35; exact Calls.quiet_of ((Hpf.out _).mono (fun e w' ⟨q, r⟩ => ⟨q, 0, r⟩))))
      go_wp2
      go_ret
      exact ⟨6, rfl, .inl ⟨by omega, ⟨nq, rfl⟩, .inr ⟨Hno.out, .inr ⟨H8n.out, .inr ⟨Hgood.out, .inr ⟨by omega, by rw [← HeT.out, ← hneed]; have := Hfull.out; omega, rfl⟩⟩⟩⟩⟩⟩
    have hlay := fun q => lay_any ok K g c hc nf free N Mm V T (.slice at' n ct) (w.drewN q) (hI.store.drewN q) hI.seqs.obj hTT hvoc (by omega) hok (by omega)
    have hafter : ∀ q w3 v, Laid ok (w.drewN q) w3 g c nf free N Mm V T (nbOf c.slots T.length) v → ∃ w4, (Instr.mapUpdate 81 (.map (some g.SM)) (.int .i64 id) v).run Try.prog w3 = .ok () w4 ∧ w3.cell? ⟨g.X, 12, none⟩ = some (.map (some g.SM)) ∧
        Created ok g n c id f L nt F w (.returned (.int .i64 0)) w4 := fun q w3 v ⟨blk1, K', N', M', V', hP⟩ => by
      have hIq : HoardI ok K (w.drewN q) g c nf free N Mm V L sv blk := hI.keep (fun _ _ => rfl) (fun e _ => KeepT.drewN _ _)
      obtain ⟨es, cl, hsm⟩ := hIq.seqs.obj
      have hm3 : MapV Try.prog 3 w3 g.SM L.length (seqAt L sv) := hIq.seqs.keep (hP.only.block _ (lt_blk hsm) (fun hx => hIq.store.smF ⟨es, cl, hsm⟩ (hx.store V)))
      obtain ⟨w4, hrun, hm4, hg4, hs4⟩ := hm3.store Try.underlying3 Try.underlying81 (by unfold maxLen; omega) id (int_wf id hid.1 hid.2) (seqAt_none Hno.out) v
      obtain ⟨q1, q2, q3, q4⟩ := hIq.push s1 hP (by have := Hn0.out; omega) (by omega) hvoc Hno.out hm4 hg4
      obtain ⟨arr', p0, _, _, _, _, _, _, p7⟩ := hP.store.obj
      obtain ⟨u1, u2⟩ := usedOf_more c.slots s1 L id T
      have hnd2 : anewTo c V T (nbOf c.slots T.length) = newTo (usedOf c.slots (toksOf L)) (wholesOf c.slots T) (T.length / c.slots) + if T.length % c.slots = 0 then 0 else 1 := hneed
      have e1 : (if n % c.slots = 0 then 0 else 1) = (if T.length % c.slots = 0 then 0 else 1) := by rw [hTl]
      refine ⟨w4, hrun, by rw [cell_blk p0]; exact p7, 0, rfl, .inr ⟨rfl, Hno.out, by omega, by have := Hn0.out; omega, by omega, Hgood.out, ?_, ?_, ?_, K', _, free, N', M', V', _, _, HeT.out ▸ q1, ?_, fun k hk => ?_⟩⟩
      · rw [← HeT.out, ← hneed]; omega
      · exact (Only.mono ⟨q2.os, q2.tape, q2.output, q2.size, q2.block⟩ (fun k _ hk => hF k hk))
      · exact fun e he => q3 e he
      · rw [← HeT.out, e1]; omega
      · rw [← HeT.out] at hk
        rcases q4 k hk with r | r
        · exact .inl (hF k r)
        · exact .inr r
    have Hnd := hide hnd
    have Hpf := hide hpf
    have Hfull := hide hfull
    have Hlay := hide hlay
    have Hafter := hide hafter
    clear hnd hpf hlay hafter hTT hvoc hI hok
    generalize anewTo c V T (nbOf c.slots T.length) = need at *
    go_enter Try.func13, Try.ntmps13
    go_wp2_with (go_at_call 32; refine Hcf2.out.mono ?_; rintro e w1 ⟨rfl, rfl⟩)
    go_quiet (first | (go_at_call 34; exact Calls.quiet_of (Hnd.out _)) | (go_at_call 35; exact Calls.quiet_of ((Hpf.out _).mono (fun e w' ⟨q, r⟩ => ⟨q, 0, r⟩))))
    go_wp2
    go_region_with (go_at_call 36; refine (Hlay.out (nq + 1)).mono ?_; rintro e w3 ⟨v, rfl, hlaid⟩; obtain ⟨w4, hrun, hx12, hfin⟩ := Hafter.out _ w3 v hlaid; have Hfin := hide hfin; clear hfin hlaid)
    all_goals (go_wp2; go_ret; exact Hfin.out)

end Go.Proofs.Ytaidjhlijadmiaa
