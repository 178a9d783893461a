import Derived.Test.YtlmflighkkgikaaP43
import Derived.Test.YtlmflighkkgikaaP46

namespace Go.Proofs.Ytlmflighkkgikaa
open Go.RowKit
theorem tkM_snoc {L : List (Int × Key)} {id : Int} (h : assoc L id = none) (k : Key) (j : Int) : tkM (L ++ [(id, k)]) j = if j = id then some k.1 else tkM L j := by
 unfold tkM
 rw [assoc_append, assoc_cons, assoc_nil]
 by_cases e : j = id
 · subst e
   rw [h, if_pos rfl, if_pos rfl]; rfl
 · rw [if_neg e, if_neg (fun q : id = j => e q.symm)]
   cases assoc L j <;> rfl
theorem tkM_set {L1 L2 : List (Int × Key)} {id : Int} (h : assoc L1 id = none) (k k0 : Key) (j : Int) : tkM (L1 ++ (id, k) :: L2) j = if j = id then some k.1 else tkM (L1 ++ (id, k0) :: L2) j := by
 unfold tkM
 rw [assoc_append, assoc_append, assoc_cons, assoc_cons]
 by_cases e : j = id
 · subst e
   rw [h, if_pos rfl, if_pos rfl]; rfl
 · rw [if_neg e, if_neg (fun q : id = j => e q.symm), if_neg (fun q : id = j => e q.symm)]
theorem tkM_at {L1 L2 : List (Int × Key)} {id : Int} (h : assoc L1 id = none) (k0 : Key) : tkM (L1 ++ (id, k0) :: L2) id = some k0.1 := by
 rw [tkM_set h k0 k0, if_pos rfl]
theorem tkM_del {L1 L2 : List (Int × Key)} {id : Int} {k0 : Key} (h : assoc L1 id = none) (hn : ((L1 ++ (id, k0) :: L2).map (·.1)).Nodup) (j : Int) : tkM (L1 ++ L2) j = if j = id then none else tkM (L1 ++ (id, k0) :: L2) j := by
 unfold tkM
 rw [assoc_append, assoc_append, assoc_cons]
 by_cases e : j = id
 · subst e
   have h2 : assoc L2 j = none := assoc_none.2 (fun x hx q => by
     rw [List.map_append, List.map_cons] at hn
     have := (List.nodup_append.1 hn).2.1
     rw [List.nodup_cons] at this
     exact this.1 (List.mem_map.2 ⟨x, hx, q⟩))
   rw [h, h2, if_pos rfl]; rfl
 · rw [if_neg e, if_neg (fun q : id = j => e q.symm)]
def idsK (L : List (Int × Key)) : Prop := ∀ x ∈ L, 0 ≤ x.1 ∧ x.1 < 5
theorem HeldK.few5 {B0 : Nat} {w : World} {p : HD} (h : HeldK B0 w p) (hi : idsK p.L) : p.L.length ≤ 5 := by
 have := nodup_le (m := [(0 : Int), 1, 2, 3, 4]) h.held.ids (fun x hx => by
   obtain ⟨y, hy, rfl⟩ := List.mem_map.1 hx
   have := hi y hy
   simp
   omega)
 simpa using this
theorem idsK_snoc {L : List (Int × Key)} {id : Int} (h : idsK L) (hid : 0 ≤ id ∧ id < 5) (k : Key) : idsK (L ++ [(id, k)]) := fun x hx => by
 rcases List.mem_append.1 hx with hx | hx
 · exact h x hx
 · rw [List.mem_singleton.1 hx]; exact hid
theorem idsK_set {L1 L2 : List (Int × Key)} {id : Int} {k0 : Key} (h : idsK (L1 ++ (id, k0) :: L2)) (k : Key) : idsK (L1 ++ (id, k) :: L2) := fun x hx => by
 rcases List.mem_append.1 hx with hx | hx
 · exact h x (by simp [hx])
 · rcases List.mem_cons.1 hx with rfl | hx
   · exact h (id, k0) (by simp)
   · exact h x (by simp [hx])
theorem idsK_del {L1 L2 : List (Int × Key)} {id : Int} {k0 : Key} (h : idsK (L1 ++ (id, k0) :: L2)) : idsK (L1 ++ L2) := fun x hx => by
 rcases List.mem_append.1 hx with hx | hx
 · exact h x (by simp [hx])
 · exact h x (by simp [hx])
abbrev TM := Int → Option (List Nat)
def updM (m : TM) (id : Int) (o : Option (List Nat)) : TM := fun k => if k = id then o else m k
structure OutM where
 code : Nat
 out : List Nat
 map : TM
def stepM (c : Cfg) (m : TM) (a : ActD) : OutM :=
 if pickI a.K 10 ≤ 2 then
   match m (pickI a.A 5) with
   | some _ => ⟨2, [], m⟩
   | none => if min a.n 9 = 0 then ⟨1, [], m⟩ else ⟨0, [], updM m (pickI a.A 5) (some (natsOf (min a.n 9) (fun j => pickI (a.f j) c.vocab)))⟩
 else if pickI a.K 10 ≤ 4 then
   match m (pickI a.A 5) with
   | none => ⟨3, [], m⟩
   | some t => if 40 < t.length + min a.n 4 then ⟨5, [], m⟩ else ⟨0, [], updM m (pickI a.A 5) (some (t ++ natsOf (min a.n 4) (fun j => pickI (a.f j) c.vocab)))⟩
 else if pickI a.K 10 ≤ 6 then
   match m (pickI a.A 5) with
   | none => ⟨3, [], m⟩
   | some t => if 40 < (t.length : Int) + pickI a.B 5 then ⟨5, [], m⟩ else ⟨0, (goTo c t (pickI a.B 5).toNat).drop t.length, updM m (pickI a.A 5) (some (goTo c t (pickI a.B 5).toNat))⟩
 else if pickI a.K 10 = 7 then
   match m (pickI a.A 5) with
   | none => ⟨3, [], m⟩
   | some t => match m (pickI a.B 5) with
     | some _ => ⟨2, [], m⟩
     | none => ⟨0, [], updM m (pickI a.B 5) (some t)⟩
 else if pickI a.K 10 = 8 then
   match m (pickI a.A 5) with
   | none => ⟨3, [], m⟩
   | some _ => ⟨0, [], updM m (pickI a.A 5) none⟩
 else ⟨0, [], m⟩
def FullK (p : HD) (a : ActD) : Prop :=
 (pickI a.K 10 ≤ 2 ∧ p.c.blocks < nbSum p.c.slots (p.L.map (·.2)) + nbOf p.c.slots (min a.n 9)) ∨
 (2 < pickI a.K 10 ∧ pickI a.K 10 ≤ 6 ∧ ∃ k0 L1 L2, p.L = L1 ++ (pickI a.A 5, k0) :: L2 ∧ assoc L1 (pickI a.A 5) = none ∧ p.c.blocks < nbSum p.c.slots ((L1 ++ L2).map (·.2)) + nbOf p.c.slots (k0.1.length + if pickI a.K 10 ≤ 4 then min a.n 4 else (pickI a.B 5).toNat))
structure DidK (w' : World) (p p' : HD) (a : ActD) (code : Nat) (v : Value) : Prop where
 ids : idsK p'.L
 still : code ≠ 0 → StillK p p'
 said : (code = 6 ∧ FullK p a) ∨ (code = (stepM p.c (tkM p.L) a).code ∧ (∀ k, tkM p'.L k = (stepM p.c (tkM p.L) a).map k) ∧ IntsT w' v (stepM p.c (tkM p.L) a).out.length (tkI (stepM p.c (tkM p.L) a).out))
theorem tkM_none {L : List (Int × Key)} {id : Int} : tkM L id = none ↔ assoc L id = none := by
 unfold tkM
 cases assoc L id <;> simp
theorem StillK.map {p p' : HD} (h : StillK p p') (k : Int) : tkM p'.L k = tkM p.L k := by rw [h.1]
theorem goTo_prefix (c : Cfg) (T : List Nat) (n : Nat) : T <+: goTo c T n := by
 induction n with
 | zero => exact List.prefix_refl _
 | succ n ih => exact ih.trans (List.prefix_append _ _)
section
variable {B0 : Nat} {w : World} {p : HD} {a : ActD}
def DoneK (B0 : Nat) (w : World) (p : HD) (a : ActD) (e : Ending) (w' : World) : Prop := ∃ (code : Nat) (v : Value) (p' : HD), e = .returned (.tuple #[.int .i64 code, v]) ∧ HeldK B0 w' p' ∧ ActedK w w' p p' ∧ DidK w' p p' a code v
theorem did_create (h : HeldK B0 w p) (hB : B0 ≤ w.heap.size) (ha : a.ok w) (hi : idsK p.L) (hk : pickI a.K 10 ≤ 2) :
   Calls Try.prog 24 #[.pointer (some ⟨p.g.X, 0, none⟩), a.val, .int .i64 p.c.vocab] w (DoneK B0 w p a) := by
 have h0 := kpick_lt (c := a.K) (n := 10) (by decide)
 have hv := h.cok.vocab.1
 have hid := kpick_lt (c := a.A) (n := 5) (by decide)
 refine (does_create h hB ha (by omega)).mono ?_
 rintro e w' ⟨rfl, p', hp', ha', hd⟩
 refine ⟨_, _, p', rfl, hp', ha', ?_⟩
 have hbad : ¬ ∃ j, j < min a.n 9 ∧ badTok p.c.vocab (pickI (a.f j) p.c.vocab) := fun ⟨j, _, q⟩ => pick_tok (by omega) q
 have hfew := h.few5 hi
 have hst : stepM p.c (tkM p.L) a = match tkM p.L (pickI a.A 5) with
   | some _ => ⟨2, [], tkM p.L⟩
   | none => if min a.n 9 = 0 then ⟨1, [], tkM p.L⟩ else ⟨0, [], updM (tkM p.L) (pickI a.A 5) (some (natsOf (min a.n 9) (fun j => pickI (a.f j) p.c.vocab)))⟩ := by
   unfold stepM; rw [if_pos hk]
 generalize hcode : createS p.c p.L p.il (pickI a.A 5) (min a.n 9) (fun j => pickI (a.f j) p.c.vocab) = code at hd ⊢
 unfold createS at hcode
 cases hx : assoc p.L (pickI a.A 5) with
 | some k0 =>
   rw [if_pos (by rw [hx]; simp)] at hcode
   subst hcode
   rcases hd with ⟨_, hs⟩ | ⟨q, _⟩
   · have e : tkM p.L (pickI a.A 5) = some k0.1 := by unfold tkM; rw [hx]; rfl
     rw [e] at hst
     refine ⟨by rw [hs.1]; exact hi, fun _ => hs, .inr ?_⟩
     rw [hst]
     exact ⟨rfl, hs.map, ints_nil _ _⟩
   · cases q
 | none =>
   have e : tkM p.L (pickI a.A 5) = none := tkM_none.2 hx
   rw [e] at hst
   simp only [] at hst
   rw [if_neg (by rw [hx]; simp)] at hcode
   by_cases h9 : min a.n 9 = 0
   · rw [if_pos (.inr h9)] at hcode
     subst hcode
     rw [if_pos h9] at hst
     rcases hd with ⟨_, hs⟩ | ⟨q, _⟩
     · refine ⟨by rw [hs.1]; exact hi, fun _ => hs, .inr ?_⟩
       rw [hst]
       exact ⟨rfl, hs.map, ints_nil _ _⟩
     · cases q
   · rw [if_neg (by omega), if_neg hbad, if_neg (by omega)] at hcode
     rw [if_neg h9] at hst
     by_cases hf : fullS p.c ([], 0) (p.L.map (·.2)) p.il (natsOf (min a.n 9) (fun j => pickI (a.f j) p.c.vocab))
     · rw [if_pos hf] at hcode
       subst hcode
       rcases hd with ⟨_, hs⟩ | ⟨q, _⟩
       · refine ⟨by rw [hs.1]; exact hi, fun _ => hs, .inl ⟨rfl, .inl ⟨hk, ?_⟩⟩⟩
         have := h.full_new _ hf
         rw [natsOf_len] at this
         exact this
       · cases q
     · rw [if_neg hf] at hcode
       subst hcode
       rcases hd with ⟨q, _⟩ | ⟨_, tn, htn, eL, _⟩
       · exact absurd rfl q
       · refine ⟨by rw [eL]; exact idsK_snoc hi hid _, fun q => absurd rfl q, .inr ?_⟩
         rw [hst]
         refine ⟨rfl, fun k => ?_, ints_nil _ _⟩
         rw [eL, tkM_snoc hx]
         rfl
theorem did_append (h : HeldK B0 w p) (hB : B0 ≤ w.heap.size) (ha : a.ok w) (hi : idsK p.L) (hk : 2 < pickI a.K 10 ∧ pickI a.K 10 ≤ 4) :
   Calls Try.prog 24 #[.pointer (some ⟨p.g.X, 0, none⟩), a.val, .int .i64 p.c.vocab] w (DoneK B0 w p a) := by
 have hv := h.cok.vocab.1
 refine (does_append h hB ha (by omega)).mono ?_
 rintro e w' ⟨code, rfl, p', hp', ha', hd⟩
 refine ⟨_, _, p', rfl, hp', ha', ?_⟩
 have hbad : ¬ ∃ j, j < min a.n 4 ∧ badTok p.c.vocab (pickI (a.f j) p.c.vocab) := fun ⟨j, _, q⟩ => pick_tok (by omega) q
 have hst : stepM p.c (tkM p.L) a = match tkM p.L (pickI a.A 5) with
   | none => ⟨3, [], tkM p.L⟩
   | some t => if 40 < t.length + min a.n 4 then ⟨5, [], tkM p.L⟩ else ⟨0, [], updM (tkM p.L) (pickI a.A 5) (some (t ++ natsOf (min a.n 4) (fun j => pickI (a.f j) p.c.vocab)))⟩ := by
   unfold stepM; rw [if_neg (by omega), if_pos hk.2]
 rcases hd with ⟨hx, rfl, hs⟩ | ⟨k0, L1, L2, eL, hx, hcode, hd⟩
 · rw [tkM_none.2 hx] at hst
   refine ⟨by rw [hs.1]; exact hi, fun _ => hs, .inr ?_⟩
   rw [hst]
   exact ⟨rfl, hs.map, ints_nil _ _⟩
 · have e : tkM p.L (pickI a.A 5) = some k0.1 := by rw [eL]; exact tkM_at hx k0
   rw [e] at hst
   simp only [] at hst
   unfold appendS at hcode
   rw [if_neg hbad] at hcode
   by_cases h40 : 40 < k0.1.length + min a.n 4
   · rw [if_pos h40] at hcode hst
     subst hcode
     rcases hd with ⟨_, hs⟩ | ⟨q, _⟩
     · refine ⟨by rw [hs.1]; exact hi, fun _ => hs, .inr ?_⟩
       rw [hst]
       exact ⟨rfl, hs.map, ints_nil _ _⟩
     · cases q
   · rw [if_neg h40] at hcode hst
     by_cases h0 : min a.n 4 = 0
     · rw [if_pos h0] at hcode
       subst hcode
       rcases hd with ⟨_, hs⟩ | ⟨_, q, _⟩
       · refine ⟨by rw [hs.1]; exact hi, fun _ => hs, .inr ?_⟩
         rw [hst, h0]
         refine ⟨rfl, fun k => ?_, ints_nil _ _⟩
         rw [hs.map]
         show tkM p.L k = if k = pickI a.A 5 then some (k0.1 ++ natsOf 0 _) else tkM p.L k
         by_cases ek : k = pickI a.A 5
         · rw [if_pos ek, ek, e]; simp [natsOf]
         · rw [if_neg ek]
       · exact absurd h0 q
     · rw [if_neg h0] at hcode
       by_cases hf : fullS p.c k0 ((L1 ++ L2).map (·.2)) p.il (k0.1 ++ natsOf (min a.n 4) (fun j => pickI (a.f j) p.c.vocab))
       · rw [if_pos hf] at hcode
         subst hcode
         rcases hd with ⟨_, hs⟩ | ⟨q, _⟩
         · refine ⟨by rw [hs.1]; exact hi, fun _ => hs, .inl ⟨rfl, .inr ⟨hk.1, by omega, k0, L1, L2, eL, hx, ?_⟩⟩⟩
           have := h.full_more eL _ (List.prefix_append _ _) hf
           rw [List.length_append, natsOf_len] at this
           rw [if_pos hk.2]
           exact this
         · cases q
       · rw [if_neg hf] at hcode
         subst hcode
         rcases hd with ⟨q | q, _⟩ | ⟨_, _, tn, htn, eL', _⟩
         · exact absurd rfl q
         · exact absurd q h0
         · refine ⟨by rw [eL']; rw [eL] at hi; exact idsK_set hi _, fun q => absurd rfl q, .inr ?_⟩
           rw [hst]
           refine ⟨rfl, fun k => ?_, ints_nil _ _⟩
           rw [eL', tkM_set hx _ k0, eL]
           rfl
theorem did_decode (h : HeldK B0 w p) (hB : B0 ≤ w.heap.size) (ha : a.ok w) (hi : idsK p.L) (hk : 4 < pickI a.K 10 ∧ pickI a.K 10 ≤ 6) :
   Calls Try.prog 24 #[.pointer (some ⟨p.g.X, 0, none⟩), a.val, .int .i64 p.c.vocab] w (DoneK B0 w p a) := by
 have hn := kpick_lt (c := a.B) (n := 5) (by decide)
 refine (does_decode h hB ha (by omega)).mono ?_
 rintro e w' ⟨code, v, rfl, p', hp', ha', hd⟩
 refine ⟨_, _, p', rfl, hp', ha', ?_⟩
 have hst : stepM p.c (tkM p.L) a = match tkM p.L (pickI a.A 5) with
   | none => ⟨3, [], tkM p.L⟩
   | some t => if 40 < (t.length : Int) + pickI a.B 5 then ⟨5, [], tkM p.L⟩ else ⟨0, (goTo p.c t (pickI a.B 5).toNat).drop t.length, updM (tkM p.L) (pickI a.A 5) (some (goTo p.c t (pickI a.B 5).toNat))⟩ := by
   unfold stepM; rw [if_neg (by omega), if_neg (by omega), if_pos hk.2]
 rcases hd with ⟨hx, rfl, rfl, hs⟩ | ⟨k0, L1, L2, eL, hx, hcode, hd⟩
 · rw [tkM_none.2 hx] at hst
   refine ⟨by rw [hs.1]; exact hi, fun _ => hs, .inr ?_⟩
   rw [hst]
   exact ⟨rfl, hs.map, ints_nil _ _⟩
 · have e : tkM p.L (pickI a.A 5) = some k0.1 := by rw [eL]; exact tkM_at hx k0
   rw [e] at hst
   simp only [] at hst
   unfold decodeS at hcode
   rw [if_neg (by omega)] at hcode
   have hgl := goTo_len p.c k0.1 (pickI a.B 5).toNat
   have hout : ∀ {w' : World} {v : Value}, IntsT w' v (pickI a.B 5).toNat (fun j => tkI (goTo p.c k0.1 (pickI a.B 5).toNat) (k0.1.length + j)) → IntsT w' v ((goTo p.c k0.1 (pickI a.B 5).toNat).drop k0.1.length).length (tkI ((goTo p.c k0.1 (pickI a.B 5).toNat).drop k0.1.length)) := fun {w'} {v} q => by
     have el : ((goTo p.c k0.1 (pickI a.B 5).toNat).drop k0.1.length).length = (pickI a.B 5).toNat := by rw [List.length_drop]; omega
     rw [el]
     refine q.congr (fun j _ => ?_)
     unfold tkI tkN
     rw [List.getD_eq_getElem?_getD, List.getD_eq_getElem?_getD, List.getElem?_drop]
   by_cases h40 : 40 < (k0.1.length : Int) + pickI a.B 5
   · rw [if_pos h40] at hcode hst
     subst hcode
     rcases hd with ⟨_, rfl, hs⟩ | ⟨q, _⟩
     · refine ⟨by rw [hs.1]; exact hi, fun _ => hs, .inr ?_⟩
       rw [hst]
       exact ⟨rfl, hs.map, ints_nil _ _⟩
     · cases q
   · rw [if_neg h40] at hcode hst
     by_cases h0 : pickI a.B 5 = 0
     · rw [if_pos h0] at hcode
       subst hcode
       rcases hd with ⟨q, _⟩ | ⟨_, hv, ⟨_, hs⟩ | ⟨q, _⟩⟩
       · exact absurd rfl q
       · refine ⟨by rw [hs.1]; exact hi, fun _ => hs, .inr ?_⟩
         rw [hst]
         refine ⟨rfl, fun k => ?_, hout hv⟩
         rw [hs.map]
         show tkM p.L k = if k = pickI a.A 5 then some (goTo p.c k0.1 (pickI a.B 5).toNat) else tkM p.L k
         by_cases ek : k = pickI a.A 5
         · rw [if_pos ek, ek, e, h0]; rfl
         · rw [if_neg ek]
       · exact absurd h0 q
     · rw [if_neg h0] at hcode
       by_cases hf : fullS p.c k0 ((L1 ++ L2).map (·.2)) p.il (goTo p.c k0.1 (pickI a.B 5).toNat)
       · rw [if_pos hf] at hcode
         subst hcode
         rcases hd with ⟨_, rfl, hs⟩ | ⟨q, _⟩
         · refine ⟨by rw [hs.1]; exact hi, fun _ => hs, .inl ⟨rfl, .inr ⟨by omega, hk.2, k0, L1, L2, eL, hx, ?_⟩⟩⟩
           have := h.full_more eL _ (goTo_prefix p.c k0.1 _) hf
           rw [hgl] at this
           rw [if_neg (by omega)]
           exact this
         · cases q
       · rw [if_neg hf] at hcode
         subst hcode
         rcases hd with ⟨q, _⟩ | ⟨_, hv, ⟨q, _⟩ | ⟨_, tn, htn, eL', _⟩⟩
         · exact absurd rfl q
         · exact absurd q h0
         · refine ⟨by rw [eL']; rw [eL] at hi; exact idsK_set hi _, fun q => absurd rfl q, .inr ?_⟩
           rw [hst]
           refine ⟨rfl, fun k => ?_, hout hv⟩
           rw [eL', tkM_set hx _ k0, eL]
           rfl
theorem did_fork (h : HeldK B0 w p) (hB : B0 ≤ w.heap.size) (ha : a.ok w) (hi : idsK p.L) (hk : pickI a.K 10 = 7) :
   Calls Try.prog 24 #[.pointer (some ⟨p.g.X, 0, none⟩), a.val, .int .i64 p.c.vocab] w (DoneK B0 w p a) := by
 have hot := kpick_lt (c := a.B) (n := 5) (by decide)
 have hfew := h.few5 hi
 refine (does_fork h hB ha hk).mono ?_
 rintro e w' ⟨code, rfl, p', hp', ha', hd⟩
 refine ⟨_, _, p', rfl, hp', ha', ?_⟩
 have hst : stepM p.c (tkM p.L) a = match tkM p.L (pickI a.A 5) with
   | none => ⟨3, [], tkM p.L⟩
   | some t => match tkM p.L (pickI a.B 5) with
     | some _ => ⟨2, [], tkM p.L⟩
     | none => ⟨0, [], updM (tkM p.L) (pickI a.B 5) (some t)⟩ := by
   unfold stepM; rw [if_neg (by omega), if_neg (by omega), if_neg (by omega), if_pos hk]
 rcases hd with ⟨hx, rfl, hs⟩ | ⟨k0, hx, hcode, hd⟩
 · rw [tkM_none.2 hx] at hst
   refine ⟨by rw [hs.1]; exact hi, fun _ => hs, .inr ?_⟩
   rw [hst]
   exact ⟨rfl, hs.map, ints_nil _ _⟩
 · have e : tkM p.L (pickI a.A 5) = some k0.1 := by unfold tkM; rw [hx]; rfl
   rw [e] at hst
   simp only [] at hst
   unfold forkS at hcode
   cases hy : assoc p.L (pickI a.B 5) with
   | some k1 =>
     rw [if_pos (by rw [hy]; simp)] at hcode
     subst hcode
     have e1 : tkM p.L (pickI a.B 5) = some k1.1 := by unfold tkM; rw [hy]; rfl
     rw [e1] at hst
     rcases hd with ⟨_, hs⟩ | ⟨q, _⟩
     · refine ⟨by rw [hs.1]; exact hi, fun _ => hs, .inr ?_⟩
       rw [hst]
       exact ⟨rfl, hs.map, ints_nil _ _⟩
     · cases q
   | none =>
     rw [if_neg (by rw [hy]; simp), if_neg (by omega)] at hcode
     subst hcode
     rw [tkM_none.2 hy] at hst
     rcases hd with ⟨q, _⟩ | ⟨_, eL', _⟩
     · exact absurd rfl q
     · refine ⟨by rw [eL']; exact idsK_snoc hi hot _, fun q => absurd rfl q, .inr ?_⟩
       rw [hst]
       refine ⟨rfl, fun k => ?_, ints_nil _ _⟩
       rw [eL', tkM_snoc hy]
       rfl
theorem did_free (h : HeldK B0 w p) (hB : B0 ≤ w.heap.size) (ha : a.ok w) (hi : idsK p.L) (hk : pickI a.K 10 = 8) :
   Calls Try.prog 24 #[.pointer (some ⟨p.g.X, 0, none⟩), a.val, .int .i64 p.c.vocab] w (DoneK B0 w p a) := by
 refine (does_free h hB ha hk).mono ?_
 rintro e w' ⟨code, rfl, p', hp', ha', hd⟩
 refine ⟨_, _, p', rfl, hp', ha', ?_⟩
 have hst : stepM p.c (tkM p.L) a = match tkM p.L (pickI a.A 5) with
   | none => ⟨3, [], tkM p.L⟩
   | some _ => ⟨0, [], updM (tkM p.L) (pickI a.A 5) none⟩ := by
   unfold stepM; rw [if_neg (by omega), if_neg (by omega), if_neg (by omega), if_neg (by omega), if_pos hk]
 rcases hd with ⟨hx, rfl, hs⟩ | ⟨k0, L1, L2, eL, hx, rfl, eL', _⟩
 · rw [tkM_none.2 hx] at hst
   refine ⟨by rw [hs.1]; exact hi, fun _ => hs, .inr ?_⟩
   rw [hst]
   exact ⟨rfl, hs.map, ints_nil _ _⟩
 · have e : tkM p.L (pickI a.A 5) = some k0.1 := by rw [eL]; exact tkM_at hx k0
   rw [e] at hst
   have hnd := h.held.ids
   rw [eL] at hnd
   refine ⟨by rw [eL']; rw [eL] at hi; exact idsK_del hi, fun q => absurd rfl q, .inr ?_⟩
   rw [hst]
   refine ⟨rfl, fun k => ?_, ints_nil _ _⟩
   rw [eL', tkM_del hx hnd, eL]
   rfl
theorem did_evict (h : HeldK B0 w p) (hB : B0 ≤ w.heap.size) (ha : a.ok w) (hi : idsK p.L) (hk : pickI a.K 10 = 9) :
   Calls Try.prog 24 #[.pointer (some ⟨p.g.X, 0, none⟩), a.val, .int .i64 p.c.vocab] w (DoneK B0 w p a) := by
 refine (does_evict h hB ha hk).mono ?_
 rintro e w' ⟨rfl, p', hp', ha', eL, _⟩
 refine ⟨0, _, p', rfl, hp', ha', ?_⟩
 have hst : stepM p.c (tkM p.L) a = ⟨0, [], tkM p.L⟩ := by
   unfold stepM; rw [if_neg (by omega), if_neg (by omega), if_neg (by omega), if_neg (by omega), if_neg (by omega)]
 refine ⟨by rw [eL]; exact hi, fun q => absurd rfl q, .inr ?_⟩
 rw [hst]
 exact ⟨rfl, fun k => by rw [eL], ints_nil _ _⟩
theorem did_any (h : HeldK B0 w p) (hB : B0 ≤ w.heap.size) (ha : a.ok w) (hi : idsK p.L) :
   Calls Try.prog 24 #[.pointer (some ⟨p.g.X, 0, none⟩), a.val, .int .i64 p.c.vocab] w (DoneK B0 w p a) := by
 have h0 := kpick_lt (c := a.K) (n := 10) (by decide)
 by_cases h2 : pickI a.K 10 ≤ 2
 · exact did_create h hB ha hi h2
 by_cases h4 : pickI a.K 10 ≤ 4
 · exact did_append h hB ha hi (by omega)
 by_cases h6 : pickI a.K 10 ≤ 6
 · exact did_decode h hB ha hi (by omega)
 by_cases h7 : pickI a.K 10 = 7
 · exact did_fork h hB ha hi h7
 by_cases h8 : pickI a.K 10 = 8
 · exact did_free h hB ha hi h8
 · exact did_evict h hB ha hi (by omega)
end
end Go.Proofs.Ytlmflighkkgikaa
