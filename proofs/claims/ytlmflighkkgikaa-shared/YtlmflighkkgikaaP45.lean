import Derived.Test.YtlmflighkkgikaaP43
import Derived.Test.YtlmflighkkgikaaP44

namespace Go.Proofs.Ytlmflighkkgikaa
theorem range_count (N q : Nat) (p : Nat → Bool) (h : ∀ i, i < N → i < q → p i = false) : ((List.range N).filter p).length ≤ N - q := by
 induction N with
 | zero => simp
 | succ N ih =>
   have ih' := ih (fun i hi hq => h i (by omega) hq)
   rw [List.range_succ, List.filter_append, List.length_append]
   by_cases hq : N < q
   · have : p N = false := h N (by omega) hq
     simp [this]
     omega
   · have : ([N].filter p).length ≤ 1 := List.length_filter_le _ _
     omega
theorem range_count_eq (N q : Nat) (hq : q ≤ N) (p : Nat → Bool) (h : ∀ i, i < N → p i = decide (q ≤ i)) : ((List.range N).filter p).length = N - q := by
 induction N with
 | zero => simp
 | succ N ih =>
   rw [List.range_succ, List.filter_append, List.length_append]
   have hN := h N (by omega)
   by_cases hqN : q ≤ N
   · rw [ih hqN (fun i hi => h i (by omega))]
     simp [hN, hqN]
     omega
   · have e : (List.range N).filter p = [] := by
       rw [List.filter_eq_nil_iff]
       intro i hi
       have hi' := List.mem_range.1 hi
       rw [h i (by omega)]
       simp
       omega
     rw [e]
     simp [hN, hqN]
     omega
theorem nUsed_more {s : Nat} (hs : 1 ≤ s) (k : Key) (H : List Key) (hk : keyOk s k) (hH : ∀ h ∈ H, keyOk s h) : nUsed s (k :: H) = nUsed s H + ((chain s k).filter (fun x => decide (¬ heldBy s H x))).length := by
 have ok1 : ∀ x ∈ k :: H, keyOk s x := fun x hx => by
   rcases List.mem_cons.1 hx with rfl | hx
   · exact hk
   · exact hH x hx
 have e := nUsed_eq s (k :: H) (usedK s H ++ (chain s k).filter (fun x => decide (¬ heldBy s H x))) hs ok1 ?_ ?_
 · rw [e, List.length_append]; rfl
 · rw [List.nodup_append]
   refine ⟨nodup_dd _, (chain_nodup s hs _ k (Nat.le_refl _) hk).filter _, fun x hx y hy e => ?_⟩
   subst e
   rw [mem_usedK s H x hs hH] at hx
   have := (List.mem_filter.1 hy).2
   simp at this
   exact this hx
 · intro x
   rw [List.mem_append, mem_usedK s H x hs hH, List.mem_filter, mem_chain s k x hs hk, heldBy_cons]
   constructor
   · rintro (h | ⟨h, _⟩)
     · exact .inr h
     · exact .inl h
   · rintro (h | h)
     · by_cases hh : heldBy s H x
       · exact .inl hh
       · exact .inr ⟨h, by simpa using hh⟩
     · exact .inl h
theorem chain_count (s : Nat) (k : Key) (p : Key → Bool) : ((chain s k).filter p).length = ((List.range (nbOf s k.1.length)).filter (fun i => p (if (i + 1) * s ≤ k.1.length then (k.1.take ((i + 1) * s), 0) else k))).length := by
 unfold chain nbOf
 rw [List.filter_map, List.length_map]
 rfl
theorem div_le_nb {s : Nat} (hs : 1 ≤ s) {a b : Nat} (h : a ≤ b) : a / s ≤ nbOf s b := by
 unfold nbOf
 exact Nat.div_le_div_right (by omega)
theorem lt_div {s i n : Nat} (hs : 1 ≤ s) : i < n / s ↔ (i + 1) * s ≤ n := by
 rw [Nat.lt_iff_add_one_le, Nat.le_div_iff_mul_le (by omega)]
theorem used_more {s : Nat} (hs : 1 ≤ s) {k h : Key} {H : List Key} (hk : keyOk s k) (hH : ∀ h ∈ H, keyOk s h) (hm : h ∈ H) {P : List Nat} (h1 : P <+: h.1) (h2 : P <+: k.1) : nUsed s (k :: H) + P.length / s ≤ nUsed s H + nbOf s k.1.length := by
 rw [nUsed_more hs k H hk hH, chain_count]
 have hle := div_le_nb (s := s) hs h2.length_le
 have := range_count (nbOf s k.1.length) (P.length / s) (fun i => decide (¬ heldBy s H (if (i + 1) * s ≤ k.1.length then (k.1.take ((i + 1) * s), 0) else k))) (fun i hi hq => by
   rw [lt_div hs] at hq
   have hl := h2.length_le
   rw [if_pos (by omega)]
   have e : k.1.take ((i + 1) * s) = P.take ((i + 1) * s) := by
     obtain ⟨r, hr⟩ := h2
     rw [← hr, List.take_append_of_le_length hq]
   have hpos : 0 < (i + 1) * s := Nat.mul_pos (by omega) (by omega)
   have hln : (P.take ((i + 1) * s)).length = (i + 1) * s := by rw [List.length_take]; omega
   have : heldBy s H (k.1.take ((i + 1) * s), 0) := by
     refine ⟨h, hm, ?_, .inr ⟨rfl, ?_, ?_⟩⟩
     · rw [e]
       intro q
       have q' : P.take ((i + 1) * s) = [] := q
       rw [q'] at hln
       simp at hln
       omega
     · rw [e, hln]; exact Nat.mul_mod_left _ _
     · rw [e]; exact (List.take_prefix _ _).trans h1
   simp [this])
 omega
theorem used_two {s : Nat} (hs : 1 ≤ s) (T U : List Nat) (tn tn' : Nat) (hT : T <+: U) (h0 : tn' ≠ 0) (hne : (endKey s T tn).2 ≠ tn') (hk : keyOk s (endKey s T tn)) (hk' : keyOk s (endKey s U tn')) : nUsed s [endKey s U tn', endKey s T tn] + T.length / s = nbOf s T.length + nbOf s U.length := by
 have hl := hT.length_le
 rw [nUsed_more hs _ _ hk' (fun h hh => by rw [List.mem_singleton.1 hh]; exact hk), nUsed_one hs _ hk, chain_count]
 have hle := div_le_nb (s := s) hs hl
 have := range_count_eq (nbOf s U.length) (T.length / s) hle (fun i => decide (¬ heldBy s [endKey s T tn] (if (i + 1) * s ≤ (endKey s U tn').1.length then ((endKey s U tn').1.take ((i + 1) * s), 0) else endKey s U tn'))) (fun i hi => by
   have hpos : 0 < (i + 1) * s := Nat.mul_pos (by omega) (by omega)
   have hq : (T.length / s ≤ i) ↔ ¬ (i + 1) * s ≤ T.length := by rw [← lt_div hs]; omega
   rw [decide_eq_decide, hq]
   refine not_congr ⟨?_, ?_⟩
   · rintro ⟨h, hm, hon⟩
     rw [List.mem_singleton.1 hm] at hon
     obtain ⟨hne1, hon⟩ := hon
     show (i + 1) * s ≤ T.length
     by_cases hu : (i + 1) * s ≤ U.length
     · rw [if_pos (show (i + 1) * s ≤ (endKey s U tn').1.length from hu)] at hon
       have hln : (U.take ((i + 1) * s)).length = (i + 1) * s := by rw [List.length_take]; omega
       rcases hon with e | ⟨_, _, hp⟩
       · have e1 : U.take ((i + 1) * s) = T := congrArg Prod.fst e
         rw [← e1, hln]
         exact Nat.le_refl _
       · have := hp.length_le
         rw [show ((endKey s U tn').1.take ((i + 1) * s)).length = (i + 1) * s from hln] at this
         exact this
     · exfalso
       rw [if_neg (show ¬ (i + 1) * s ≤ (endKey s U tn').1.length from hu)] at hon
       have hmod : U.length % s ≠ 0 := fun hz => by
         have h3 := (nbOf_lt (s := s) (n := U.length) hs).1 hi
         have h4 : U.length = s * (U.length / s) := by have := Nat.div_add_mod U.length s; omega
         have h5 : i < U.length / s := by
           refine Nat.lt_of_not_le (fun q => ?_)
           have := Nat.mul_le_mul_left s q
           rw [Nat.mul_comm i s] at h3
           omega
         exact hu ((lt_div hs).1 h5)
       have h2 : (endKey s U tn').2 = tn' := by unfold endKey; simp only []; rw [if_neg hmod]
       rcases hon with e | ⟨e, _⟩
       · exact hne (by rw [← e]; exact h2)
       · rw [h2] at e; exact h0 e
   · intro hu
     have hu' : (i + 1) * s ≤ U.length := Nat.le_trans hu hl
     rw [if_pos (show (i + 1) * s ≤ (endKey s U tn').1.length from hu')]
     have hln : (U.take ((i + 1) * s)).length = (i + 1) * s := by rw [List.length_take]; omega
     have e : U.take ((i + 1) * s) = T.take ((i + 1) * s) := by
       obtain ⟨r, hr⟩ := hT
       rw [← hr, List.take_append_of_le_length hu]
     refine ⟨endKey s T tn, by simp, ?_, .inr ⟨rfl, ?_, ?_⟩⟩
     · show U.take ((i + 1) * s) ≠ []
       intro q; rw [q] at hln; simp at hln; omega
     · show (U.take ((i + 1) * s)).length % s = 0
       rw [hln]; exact Nat.mul_mod_left _ _
     · show U.take ((i + 1) * s) <+: T
       rw [e]; exact List.take_prefix _ _)
 refine (congrArg (fun x => nbOf s T.length + x + T.length / s) this).trans ?_
 show nbOf s T.length + (nbOf s U.length - T.length / s) + T.length / s = _
 omega
theorem full_share {c : Cfg} {k0 h : Key} {H0 : List Key} {il : List (List Nat)} {T P : List Nat} (hs : 1 ≤ c.slots) (hp : Pure c.slots c.vocab (k0 :: H0) il) (hcount : il.length + nUsed c.slots (k0 :: H0) ≤ c.blocks) (hk : k0.1 <+: T) (hm : h ∈ H0) (h1 : P <+: h.1) (h2 : P <+: T) (hf : fullS c k0 H0 il T) : c.blocks + P.length / c.slots < nUsed c.slots H0 + nbOf c.slots T.length := by
 obtain ⟨f1, f4, f5, f6⟩ := far_factsS hp T
 generalize hfar : farS c.slots (k0 :: H0) il T = far at f1 f4 f5 f6
 have f2 := List.prefix_iff_eq_take.1 f1
 have f3 := f1.length_le
 have hkey := hp.ok k0 (by simp)
 have hkn : k0.1 = [] → k0.2 = 0 := fun e => by unfold keyOk at hkey; exact hkey.2 (by rw [e]; simp)
 have hH : ∀ h ∈ H0, keyOk c.slots h := fun h hh => hp.ok h (List.mem_cons_of_mem _ hh)
 have hfk : keyOk c.slots (far, 0) := by unfold keyOk; simp [f4]
 have hcov := fun x hx hx2 => far_covers hp T far hk f2 f6 x hx hx2
 have hu := nUsed_use hs hp f5
 have hc := nUsed_covered hs hkey hH far hfk hcov hkn
 have hperm : nUsed c.slots ((far, 0) :: k0 :: H0) = nUsed c.slots (k0 :: (far, 0) :: H0) := nUsed_perm c.slots _ _ hs (fun h hh => by
   rcases List.mem_cons.1 hh with rfl | hh
   · exact hfk
   · exact hp.ok h hh) (fun h => by simp only [List.mem_cons]; constructor <;> (rintro (q | q | q) <;> simp [q]))
 have hnb := nb_split (b := T.length - far.length) hs f4
 rw [show far.length + (T.length - far.length) = T.length by omega] at hnb
 have hl1 : (P.take (P.length / c.slots * c.slots)).length = P.length / c.slots * c.slots := by rw [List.length_take]; have := Nat.div_mul_le_self P.length c.slots; omega
 have hPT : (P.take (P.length / c.slots * c.slots)) <+: T := (List.take_prefix _ _).trans h2
 have hPf : (P.take (P.length / c.slots * c.slots)) <+: far := by
   refine List.prefix_of_prefix_length_le hPT f1 (Nat.le_of_not_lt (fun hlt => ?_))
   have hle := hPT.length_le
   refine f6 _ hlt hle ?_
   rw [← List.prefix_iff_eq_take.1 hPT]
   refine .inl ⟨h, List.mem_cons_of_mem _ hm, ?_, .inr ⟨rfl, ?_, (List.take_prefix _ P).trans h1⟩⟩
   · intro q
     have q' : P.take (P.length / c.slots * c.slots) = [] := q
     rw [q'] at hlt
     simp at hlt
   · show (P.take (P.length / c.slots * c.slots)).length % c.slots = 0
     rw [hl1]; exact Nat.mul_mod_left _ _
 have hum := used_more hs (k := (far, 0)) hfk hH hm ((List.take_prefix _ P).trans h1) hPf
 rw [hl1, Nat.mul_div_cancel _ (by omega)] at hum
 unfold fullS freeS needS upS at hf
 rw [hfar] at hf
 simp only [] at hu hum
 omega
end Go.Proofs.Ytlmflighkkgikaa
namespace Go.Proofs.Ytlmflighkkgikaa
open Go.RowKit
attribute [local go_sem ↓] Go.wp_at_zero Go.wp_at_succ
theorem IntsT.bel {w w' : World} {v : Value} {n : Nat} {g : Nat → Int} (h : IntsT w v n g) (hb : Below w.heap.size w w') : IntsT w' v n g := h.keep (KeepT.of_below hb)
end Go.Proofs.Ytlmflighkkgikaa
