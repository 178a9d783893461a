import Derived.Test.YtlmflighkkgikaaP43
import Derived.Test.YtlmflighkkgikaaP44
import Derived.Test.YtlmflighkkgikaaP45

namespace Go.Proofs.Ytlmflighkkgikaa
open Go.RowKit
def idsK (L : List (Int × Key)) : Prop := ∀ x ∈ L, 0 ≤ x.1 ∧ x.1 < 5
theorem idsK_snoc {L : List (Int × Key)} {id : Int} (h : idsK L) (hid : 0 ≤ id ∧ id < 5) (k : Key) : idsK (L ++ [(id, k)]) := fun x hx => by
 rcases List.mem_append.1 hx with hx | hx
 · exact h x hx
 · rw [List.mem_singleton.1 hx]; exact hid
theorem idsK_del {L1 L2 : List (Int × Key)} {id : Int} {k0 : Key} (h : idsK (L1 ++ (id, k0) :: L2)) : idsK (L1 ++ L2) := fun x hx => by
 rcases List.mem_append.1 hx with hx | hx
 · exact h x (by simp [hx])
 · exact h x (by simp [hx])
abbrev TM := Int → Option (List Nat)
def updM (m : TM) (id : Int) (o : Option (List Nat)) : TM := fun k => if k = id then o else m k
structure OutM where
 code : Nat
 out : List Nat
 map : TM
def stepM (c : Cfg) (m : TM) (a : ActD) : OutM :=
 if pickI a.K 10 ≤ 2 then
   match m (pickI a.A 5) with
   | some _ => ⟨2, [], m⟩
   | none => if min a.n 9 = 0 then ⟨1, [], m⟩ else ⟨0, [], updM m (pickI a.A 5) (some (natsOf (min a.n 9) (fun j => pickI (a.f j) c.vocab)))⟩
 else if pickI a.K 10 ≤ 4 then
   match m (pickI a.A 5) with
   | none => ⟨3, [], m⟩
   | some t => if 40 < t.length + min a.n 4 then ⟨5, [], m⟩ else ⟨0, [], updM m (pickI a.A 5) (some (t ++ natsOf (min a.n 4) (fun j => pickI (a.f j) c.vocab)))⟩
 else if pickI a.K 10 ≤ 6 then
   match m (pickI a.A 5) with
   | none => ⟨3, [], m⟩
   | some t => if 40 < (t.length : Int) + pickI a.B 5 then ⟨5, [], m⟩ else ⟨0, (goTo c t (pickI a.B 5).toNat).drop t.length, updM m (pickI a.A 5) (some (goTo c t (pickI a.B 5).toNat))⟩
 else if pickI a.K 10 = 7 then
   match m (pickI a.A 5) with
   | none => ⟨3, [], m⟩
   | some t => match m (pickI a.B 5) with
     | some _ => ⟨2, [], m⟩
     | none => ⟨0, [], updM m (pickI a.B 5) (some t)⟩
 else if pickI a.K 10 = 8 then
   match m (pickI a.A 5) with
   | none => ⟨3, [], m⟩
   | some _ => ⟨0, [], updM m (pickI a.A 5) none⟩
 else ⟨0, [], m⟩
def FullK (p : HD) (a : ActD) : Prop :=
 (pickI a.K 10 ≤ 2 ∧ p.c.blocks < nbSum p.c.slots (p.L.map (·.2)) + nbOf p.c.slots (min a.n 9)) ∨
 (2 < pickI a.K 10 ∧ pickI a.K 10 ≤ 6 ∧ ∃ k0 L1 L2, p.L = L1 ++ (pickI a.A 5, k0) :: L2 ∧ assoc L1 (pickI a.A 5) = none ∧ p.c.blocks < nbSum p.c.slots ((L1 ++ L2).map (·.2)) + nbOf p.c.slots (k0.1.length + if pickI a.K 10 ≤ 4 then min a.n 4 else (pickI a.B 5).toNat))
structure DidK (w' : World) (p p' : HD) (a : ActD) (code : Nat) (v : Value) : Prop where
 ids : idsK p'.L
 still : code ≠ 0 → StillK p p'
 said : (code = 6 ∧ FullK p a) ∨ (code = (stepM p.c (tkM p.L) a).code ∧ (∀ k, tkM p'.L k = (stepM p.c (tkM p.L) a).map k) ∧ IntsT w' v (stepM p.c (tkM p.L) a).out.length (tkI (stepM p.c (tkM p.L) a).out))
theorem StillK.map {p p' : HD} (h : StillK p p') (k : Int) : tkM p'.L k = tkM p.L k := by rw [h.1]
section
variable {B0 : Nat} {w : World} {p : HD} {a : ActD}
end
end Go.Proofs.Ytlmflighkkgikaa
namespace Go.Proofs.Ytlmflighkkgikaa
theorem range_mid (N q r : Nat) (hq : q ≤ r) (hr : r ≤ N) (p : Nat → Bool) (h : ∀ i, i < N → p i = decide (q ≤ i ∧ i < r)) : ((List.range N).filter p).length = r - q := by
 induction N with
 | zero => simp; omega
 | succ N ih =>
   rw [List.range_succ, List.filter_append, List.length_append]
   have hN := h N (by omega)
   by_cases hrN : r ≤ N
   · rw [ih hrN (fun i hi => h i (by omega))]
     have : ¬ N < r := by omega
     simp [hN, this]
   · obtain rfl : r = N + 1 := by omega
     rw [range_count_eq N (min q N) (by omega) p (fun i hi => by
       rw [h i (by omega), decide_eq_decide]
       omega)]
     by_cases hqN : q ≤ N
     · simp [hN, hqN]
       omega
     · simp [hN, hqN]
       omega
theorem filterMap_len {α β : Type} (l : List α) (p : α → Bool) (f : α → β) : (l.filterMap fun x => if p x then some (f x) else none).length = (l.filter p).length := by
 induction l with
 | nil => rfl
 | cons x l ih =>
   by_cases h : p x
   · simp [h, ih]
   · simp [h, ih]
theorem elt_whole {s : Nat} (hs : 1 ≤ s) (U : List Nat) (tn' : Nat) (h0 : tn' ≠ 0) {i : Nat} (hi : i < nbOf s U.length) : (if (i + 1) * s ≤ (endKey s U tn').1.length then ((endKey s U tn').1.take ((i + 1) * s), 0) else endKey s U tn').2 = 0 ↔ i < U.length / s := by
 rw [lt_div hs]
 by_cases hu : (i + 1) * s ≤ U.length
 · rw [if_pos (show (i + 1) * s ≤ (endKey s U tn').1.length from hu)]
   simp [hu]
 · rw [if_neg (show ¬ (i + 1) * s ≤ (endKey s U tn').1.length from hu)]
   have hmod : U.length % s ≠ 0 := fun hz => by
     have h3 := (nbOf_lt (s := s) (n := U.length) hs).1 hi
     have h4 : U.length = s * (U.length / s) := by have := Nat.div_add_mod U.length s; omega
     have h5 : i < U.length / s := by
       refine Nat.lt_of_not_le (fun q => ?_)
       have := Nat.mul_le_mul_left s q
       rw [Nat.mul_comm i s] at h3
       omega
     exact hu ((lt_div hs).1 h5)
   have h2 : (endKey s U tn').2 = tn' := by unfold endKey; simp only []; rw [if_neg hmod]
   rw [h2]
   simp [hu, h0]
theorem held_two {s : Nat} (hs : 1 ≤ s) (T U : List Nat) (tn tn' : Nat) (hT : T <+: U) (h0 : tn' ≠ 0) (hne : (endKey s T tn).2 ≠ tn') {i : Nat} (hi : i < nbOf s U.length) : heldBy s [endKey s T tn] (if (i + 1) * s ≤ (endKey s U tn').1.length then ((endKey s U tn').1.take ((i + 1) * s), 0) else endKey s U tn') ↔ i < T.length / s := by
 have hl := hT.length_le
 have hpos : 0 < (i + 1) * s := Nat.mul_pos (by omega) (by omega)
 rw [lt_div hs]
 constructor
 · rintro ⟨h, hm, hon⟩
   rw [List.mem_singleton.1 hm] at hon
   obtain ⟨hne1, hon⟩ := hon
   by_cases hu : (i + 1) * s ≤ U.length
   · rw [if_pos (show (i + 1) * s ≤ (endKey s U tn').1.length from hu)] at hon
     have hln : (U.take ((i + 1) * s)).length = (i + 1) * s := by rw [List.length_take]; omega
     rcases hon with e | ⟨_, _, hp⟩
     · have e1 : U.take ((i + 1) * s) = T := congrArg Prod.fst e
       rw [← e1, hln]
       exact Nat.le_refl _
     · have := hp.length_le
       rw [show ((endKey s U tn').1.take ((i + 1) * s)).length = (i + 1) * s from hln] at this
       exact this
   · exfalso
     have hw := elt_whole hs U tn' h0 hi
     rw [lt_div hs] at hw
     rw [if_neg (show ¬ (i + 1) * s ≤ (endKey s U tn').1.length from hu)] at hon hw
     have h2 : (endKey s U tn').2 ≠ 0 := fun q => hu (hw.1 q)
     have h3 : (endKey s U tn').2 = tn' := by
       unfold endKey at h2 ⊢
       simp only [] at h2 ⊢
       split
       · rename_i hz; rw [if_pos hz] at h2; exact absurd rfl h2
       · rfl
     rcases hon with e | ⟨e, _⟩
     · exact hne (by rw [← e]; exact h3)
     · exact h2 e
 · intro hu
   have hu' : (i + 1) * s ≤ U.length := Nat.le_trans hu hl
   rw [if_pos (show (i + 1) * s ≤ (endKey s U tn').1.length from hu')]
   have hln : (U.take ((i + 1) * s)).length = (i + 1) * s := by rw [List.length_take]; omega
   have e : U.take ((i + 1) * s) = T.take ((i + 1) * s) := by
     obtain ⟨r, hr⟩ := hT
     rw [← hr, List.take_append_of_le_length hu]
   refine ⟨endKey s T tn, by simp, ?_, .inr ⟨rfl, ?_, ?_⟩⟩
   · show U.take ((i + 1) * s) ≠ []
     intro q; rw [q] at hln; simp at hln; omega
   · show (U.take ((i + 1) * s)).length % s = 0
     rw [hln]; exact Nat.mul_mod_left _ _
   · show U.take ((i + 1) * s) <+: T
     rw [e]; exact List.take_prefix _ _
theorem left_len (s : Nat) (H : List Key) (k : Key) : (leftOf s H k).length = ((List.range (nbOf s k.1.length)).filter (fun i => decide ((if (i + 1) * s ≤ k.1.length then (k.1.take ((i + 1) * s), 0) else k : Key).2 = 0 ∧ ¬ heldBy s H (if (i + 1) * s ≤ k.1.length then (k.1.take ((i + 1) * s), 0) else k)))).length := by
 have e : leftOf s H k = (chain s k).reverse.filterMap fun x => if (decide (x.2 = 0 ∧ ¬ heldBy s H x)) = true then some x.1 else none := by
   unfold leftOf
   congr 1
   funext x
   simp
 rw [e, filterMap_len, List.filter_reverse, List.length_reverse, chain_count]
theorem left_two {s : Nat} (hs : 1 ≤ s) (T U : List Nat) (tn tn' : Nat) (hT : T <+: U) (h0 : tn' ≠ 0) (hne : (endKey s T tn).2 ≠ tn') : (leftOf s [endKey s T tn] (endKey s U tn')).length = U.length / s - T.length / s := by
 rw [left_len]
 refine range_mid _ _ _ (Nat.div_le_div_right hT.length_le) (div_le_nb hs (Nat.le_refl _)) _ (fun i hi => ?_)
 rw [decide_eq_decide, elt_whole hs U tn' h0 hi, held_two hs T U tn tn' hT h0 hne hi]
 omega
theorem left_one {s : Nat} (hs : 1 ≤ s) (T : List Nat) (tn : Nat) (h0 : tn ≠ 0) : (leftOf s [] (endKey s T tn)).length = T.length / s := by
 rw [left_len]
 have := range_mid (nbOf s T.length) 0 (T.length / s) (Nat.zero_le _) (div_le_nb hs (Nat.le_refl _)) (fun i => decide ((if (i + 1) * s ≤ (endKey s T tn).1.length then ((endKey s T tn).1.take ((i + 1) * s), 0) else endKey s T tn : Key).2 = 0 ∧ ¬ heldBy s [] (if (i + 1) * s ≤ (endKey s T tn).1.length then ((endKey s T tn).1.take ((i + 1) * s), 0) else endKey s T tn))) (fun i hi => by
   rw [decide_eq_decide, elt_whole hs T tn h0 hi]
   have : ¬ heldBy s [] (if (i + 1) * s ≤ (endKey s T tn).1.length then ((endKey s T tn).1.take ((i + 1) * s), 0) else endKey s T tn) := fun ⟨_, hm, _⟩ => by cases hm
   simp [this])
 exact this
theorem left_mem {s : Nat} (hs : 1 ≤ s) (T : List Nat) (tn : Nat) {n : Nat} (hn : 0 < n) (hd : n % s = 0) (hle : n ≤ T.length) : T.take n ∈ leftOf s [] (endKey s T tn) := by
 unfold leftOf
 rw [List.mem_filterMap]
 refine ⟨(T.take n, 0), ?_, ?_⟩
 · rw [List.mem_reverse]
   unfold chain
   rw [List.mem_map]
   have e : (n / s - 1 + 1) * s = n := by
     have h1 : s ≤ n := Nat.le_of_not_lt (fun q => by
       rw [Nat.mod_eq_of_lt q] at hd
       omega)
     have h2 : 1 ≤ n / s := (Nat.one_le_div_iff (by omega)).2 h1
     rw [Nat.sub_add_cancel h2, Nat.div_mul_cancel (Nat.dvd_of_mod_eq_zero hd)]
   refine ⟨n / s - 1, ?_, ?_⟩
   · rw [List.mem_range]
     refine (nbOf_lt (s := s) (n := T.length) hs).2 ?_
     have e' := e
     rw [Nat.add_mul, Nat.one_mul] at e'
     omega
   · rw [e, if_pos (show n ≤ (endKey s T tn).1.length from hle)]
     rfl
 · have : ¬ heldBy s [] (T.take n, 0) := fun ⟨_, hm, _⟩ => by cases hm
   simp [this]
theorem ils_again {c : Cfg} {il : List (List Nat)} {T : List Nat} (hs : 1 ≤ c.slots) (hp : Pure c.slots c.vocab [] il) (hall : ∀ n, 0 < n → n % c.slots = 0 → n ≤ T.length → T.take n ∈ il) (hroom : il.length + 1 ≤ c.blocks) : (ilS c ([], 0) [] il T).length + T.length / c.slots = il.length := by
 have hp' := pure_come hp
 obtain ⟨f1, f4, f5, f6⟩ := far_factsS hp' T
 generalize hfar : farS c.slots (([], 0) :: []) il T = far at f1 f4 f5 f6
 have f3 := f1.length_le
 have hdm := Nat.div_add_mod T.length c.slots
 have hmod := Nat.mod_lt T.length (show c.slots > 0 by omega)
 have hge : c.slots * (T.length / c.slots) ≤ far.length := Nat.le_of_not_lt (fun hlt => by
   refine f6 _ hlt (by omega) (.inr ⟨rfl, hall _ (by omega) (Nat.mul_mod_right _ _) (by omega)⟩))
 have hle : far.length ≤ c.slots * (T.length / c.slots) := by
   have h1 : far.length = c.slots * (far.length / c.slots) := by have := Nat.div_add_mod far.length c.slots; omega
   have h2 : far.length / c.slots ≤ T.length / c.slots := Nat.div_le_div_right f3
   have := Nat.mul_le_mul_left c.slots h2
   omega
 have hfl : far.length = c.slots * (T.length / c.slots) := by omega
 have hfk : keyOk c.slots (far, 0) := by unfold keyOk; simp [f4]
 have hu := nUsed_use hs hp' f5
 have e0 : nUsed c.slots [([], 0)] = 0 := by rw [nUsed_nil c.slots [] 0 hs (fun x hx => by cases hx) rfl]; rfl
 have e1 : nUsed c.slots ((far, 0) :: [([], 0)]) = T.length / c.slots := by
   rw [nUsed_perm c.slots ((far, 0) :: [([], 0)]) (([], 0) :: [(far, 0)]) hs (fun h hh => by
     simp at hh
     rcases hh with rfl | rfl
     · exact hfk
     · unfold keyOk; simp) (fun h => by simp [or_comm]), nUsed_nil c.slots [(far, 0)] 0 hs (fun x hx => by rw [List.mem_singleton.1 hx]; exact hfk) rfl, nUsed_one hs _ hfk]
   show nbOf c.slots far.length = _
   rw [hfl]
   unfold nbOf
   rw [show c.slots * (T.length / c.slots) + c.slots - 1 = (c.slots - 1) + c.slots * (T.length / c.slots) by omega, Nat.add_mul_div_left _ _ (by omega), Nat.div_eq_of_lt (by omega)]
   omega
 have hup : upS c (([], 0) :: []) il T = notUp far il := by unfold upS; rw [hfar]
 have hneed : needS c (([], 0) :: []) il T ≤ 1 := by
   unfold needS
   rw [hfar, hfl]
   have h5 : T.length - c.slots * (T.length / c.slots) = T.length % c.slots := by omega
   rw [h5]
   unfold nbOf
   refine Nat.le_of_lt_succ (Nat.div_lt_of_lt_mul ?_)
   show _ < c.slots * 2
   have h6 := hmod
   generalize T.length % c.slots = r at h6
   omega
 have hfree : freeS c (([], 0) :: []) il = c.blocks - il.length := by unfold freeS; rw [e0]; rfl
 have hev : evN ((needS c (([], 0) :: []) il T : Int) - ownTail (users c.slots (([], 0) :: [])) ([], 0) - freeS c (([], 0) :: []) il) (notUp far il) = 0 := by
   unfold evN
   rw [hfree]
   have : ((needS c (([], 0) :: []) il T : Int) - ownTail (users c.slots (([], 0) :: [])) ([], 0) - ((c.blocks - il.length : Nat) : Int)).toNat = 0 := by omega
   rw [this]
   exact Nat.zero_min _
 unfold ilS
 rw [hup, hev, List.drop_zero]
 simp only [] at hu
 omega
end Go.Proofs.Ytlmflighkkgikaa
