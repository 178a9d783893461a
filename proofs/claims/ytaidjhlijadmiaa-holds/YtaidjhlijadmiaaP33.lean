import Derived.Test.YtaidjhlijadmiaaP30
import Derived.Test.YtaidjhlijadmiaaP32

/-
  What the program finds to be needed anew is what the reference finds.
-/
namespace Go.Proofs.Ytaidjhlijadmiaa
open Go.RowKit

theorem anew_new (c : Cfg) (V : List Nat → Option Nat) (U : List (List Nat)) (T : List Nat) (_hs : 1 ≤ c.slots)
    (hV : ∀ j, (j + 1) * c.slots ≤ T.length → ((V (T.take ((j + 1) * c.slots))).isSome = true ↔ T.take ((j + 1) * c.slots) ∈ U)) (k : Nat) (hk : k ≤ T.length / c.slots) : anewTo c V T k = newTo U (wholesOf c.slots T) k := by
  induction k with
  | zero => rfl
  | succ k ih =>
    have hfit : (k + 1) * c.slots ≤ T.length := by
      have h1 : (k + 1) * c.slots ≤ T.length / c.slots * c.slots := Nat.mul_le_mul_right _ hk
      have h2 := Nat.div_mul_le_self T.length c.slots
      omega
    have e1 : wholeAt c V T (k * c.slots) = V (T.take ((k + 1) * c.slots)) := by
      unfold wholeAt
      have e : k * c.slots + c.slots = (k + 1) * c.slots := by rw [Nat.add_mul]; omega
      rw [e, if_pos hfit]
    have e2 : (wholesOf c.slots T).getD k [] = T.take ((k + 1) * c.slots) := by
      rw [List.getD_eq_getElem?_getD]
      unfold wholesOf
      simp [show k < T.length / c.slots by omega]
    simp only [anewTo, newTo]
    rw [e1, e2, ih (by omega)]
    by_cases h : T.take ((k + 1) * c.slots) ∈ U
    · rw [if_pos ((hV k hfit).2 h), if_pos h]
    · rw [if_neg (fun h' => h ((hV k hfit).1 h')), if_neg h]

theorem need_eq (c : Cfg) (V : List Nat → Option Nat) (U : List (List Nat)) (T : List Nat) (hs : 1 ≤ c.slots)
    (hV : ∀ j, (j + 1) * c.slots ≤ T.length → ((V (T.take ((j + 1) * c.slots))).isSome = true ↔ T.take ((j + 1) * c.slots) ∈ U)) : anewTo c V T (nbOf c.slots T.length) = needOf c.slots U T := by
  have hd := Nat.div_add_mod T.length c.slots
  have hm := Nat.mod_lt T.length (show 0 < c.slots by omega)
  have hc : c.slots * (T.length / c.slots) = T.length / c.slots * c.slots := Nat.mul_comm _ _
  unfold needOf
  by_cases h : T.length % c.slots = 0
  · have e : nbOf c.slots T.length = T.length / c.slots := by
      refine Nat.le_antisymm ?_ ?_
      · refine Nat.le_of_not_lt (fun hlt => ?_)
        have := (nbOf_lt hs).1 hlt
        omega
      · refine Nat.le_of_not_lt (fun hlt => ?_)
        have h1 : ¬ nbOf c.slots T.length < nbOf c.slots T.length := Nat.lt_irrefl _
        rw [nbOf_lt hs] at h1
        have h2 : (nbOf c.slots T.length + 1) * c.slots ≤ T.length / c.slots * c.slots := Nat.mul_le_mul_right _ hlt
        rw [Nat.add_mul] at h2
        omega
    rw [e, if_pos h, anew_new c V U T hs hV _ (Nat.le_refl _)]; rfl
  · have e : nbOf c.slots T.length = T.length / c.slots + 1 := by
      refine Nat.le_antisymm ?_ ?_
      · refine Nat.le_of_not_lt (fun hlt => ?_)
        have h1 := (nbOf_lt hs).1 hlt
        rw [Nat.add_mul] at h1
        omega
      · have h1 : T.length / c.slots < nbOf c.slots T.length := (nbOf_lt hs).2 (by omega)
        omega
    rw [e, if_neg h]
    have e2 : wholeAt c V T (T.length / c.slots * c.slots) = none := by
      unfold wholeAt
      rw [if_neg (by omega)]
    simp only [anewTo]
    rw [e2, anew_new c V U T hs hV _ (Nat.le_refl _)]
    rfl

/-- How many beginnings come to be in use. -/
theorem addAll_count (U bs : List (List Nat)) (hd : ∀ i j, i < j → j < bs.length → bs.getD i [] ≠ bs.getD j []) (k : Nat) (hk : k ≤ bs.length) :
    (addAll U (bs.take k)).length = U.length + newTo U bs k ∧ ∀ x, x ∈ addAll U (bs.take k) ↔ x ∈ U ∨ ∃ i, i < k ∧ bs.getD i [] = x := by
  induction k with
  | zero => exact ⟨by simp [addAll, newTo], fun x => by simp [addAll]⟩
  | succ k ih =>
    obtain ⟨h1, h2⟩ := ih (by omega)
    have hnew : ∀ i, i < k → bs.getD i [] ≠ bs.getD k [] := fun i hi => hd i k hi (by omega)
    rw [take_snoc' _ [] _ (by omega), addAll_snoc]
    have hin : bs.getD k [] ∈ addAll U (bs.take k) ↔ bs.getD k [] ∈ U := by
      rw [h2]
      constructor
      · rintro (h | ⟨i, hi, e⟩)
        · exact h
        · exact absurd e (hnew i hi)
      · exact .inl
    by_cases hU : bs.getD k [] ∈ U
    · have e : addTo (addAll U (bs.take k)) (bs.getD k []) = addAll U (bs.take k) := by unfold addTo; rw [if_pos (hin.2 hU)]
      rw [e, newTo_in U bs k hU]
      refine ⟨h1, fun x => ?_⟩
      rw [h2]
      constructor
      · rintro (h | ⟨i, hi, e⟩)
        · exact .inl h
        · exact .inr ⟨i, by omega, e⟩
      · rintro (h | ⟨i, hi, e'⟩)
        · exact .inl h
        · by_cases hik : i = k
          · rw [hik] at e'; rw [← e']; exact .inl hU
          · exact .inr ⟨i, by omega, e'⟩
    · have e : addTo (addAll U (bs.take k)) (bs.getD k []) = addAll U (bs.take k) ++ [bs.getD k []] := by unfold addTo; rw [if_neg (fun h => hU (hin.1 h))]
      rw [e, newTo_out U bs k hU]
      refine ⟨by rw [List.length_append, h1]; simp; omega, fun x => ?_⟩
      rw [List.mem_append, h2]
      constructor
      · rintro ((h | ⟨i, hi, e⟩) | h)
        · exact .inl h
        · exact .inr ⟨i, by omega, e⟩
        · simp only [List.mem_singleton] at h
          exact .inr ⟨k, by omega, h.symm⟩
      · rintro (h | ⟨i, hi, e'⟩)
        · exact .inl (.inl h)
        · by_cases hik : i = k
          · rw [hik] at e'; right; simp only [List.mem_singleton]; exact e'.symm
          · exact .inl (.inr ⟨i, by omega, e'⟩)

theorem wholesOf_apart (s : Nat) (T : List Nat) (hs : 1 ≤ s) : ∀ i j, i < j → j < (wholesOf s T).length → (wholesOf s T).getD i [] ≠ (wholesOf s T).getD j [] := by
  intro i j hij hj e
  rw [wholesOf_len] at hj
  have g : ∀ k, k < T.length / s → (wholesOf s T).getD k [] = T.take ((k + 1) * s) := fun k hk => by
    rw [List.getD_eq_getElem?_getD]; unfold wholesOf; simp [hk]
  have hfit : (j + 1) * s ≤ T.length := by
    have h1 : (j + 1) * s ≤ T.length / s * s := Nat.mul_le_mul_right _ hj
    have h2 := Nat.div_mul_le_self T.length s
    omega
  have hlt : (i + 1) * s < (j + 1) * s := Nat.mul_lt_mul_of_pos_right (by omega) (by omega)
  rw [g i (by omega), g j hj] at e
  have := congrArg List.length e
  simp at this
  omega

end Go.Proofs.Ytaidjhlijadmiaa
