import Derived.BigQuiet
import Derived.Deep.QuietTactic
import Derived.Test.YtlmflighkkgikaaP02
import Derived.Test.YtlmflighkkgikaaP07

namespace Go.Proofs.Ytlmflighkkgikaa
abbrev Key := List Nat × Nat
def pred (s : Nat) (k : Key) : Key := (k.1.take ((k.1.length - 1) / s * s), 0)
def keyOk (s : Nat) (k : Key) : Prop := k.2 = 0 ↔ k.1.length % s = 0
def on (s : Nat) (h k : Key) : Prop := k.1 ≠ [] ∧ (k = h ∨ (k.2 = 0 ∧ k.1.length % s = 0 ∧ k.1 <+: h.1))
instance (s : Nat) (h k : Key) : Decidable (on s h k) := by unfold on; infer_instance
theorem pred_len (s : Nat) (k : Key) (_hs : 1 ≤ s) (h : k.1 ≠ []) : (pred s k).1.length = (k.1.length - 1) / s * s ∧ (pred s k).1.length < k.1.length := by
 have h0 : 0 < k.1.length := List.length_pos_iff.2 h
 have h1 := Nat.div_mul_le_self (k.1.length - 1) s
 have : (pred s k).1.length = (k.1.length - 1) / s * s := by unfold pred; simp; omega
 omega
theorem pred_ok (s : Nat) (k : Key) (hs : 1 ≤ s) : keyOk s (pred s k) := by
 unfold keyOk
 by_cases h : k.1 = []
 · simp [pred, h]
 · rw [(pred_len s k hs h).1]
   simp [pred]
theorem pred_gap (s : Nat) (k : Key) (hs : 1 ≤ s) (h : k.1 ≠ []) : k.1.length ≤ (pred s k).1.length + s ∧ (k.1.length % s = 0 → k.1.length = (pred s k).1.length + s) := by
 have h0 : 0 < k.1.length := List.length_pos_iff.2 h
 rw [(pred_len s k hs h).1]
 have h1 : (k.1.length - 1) / s * s + (k.1.length - 1) % s = k.1.length - 1 := by rw [Nat.mul_comm]; exact Nat.div_add_mod _ _
 have h2 := Nat.mod_lt (k.1.length - 1) (show 0 < s by omega)
 refine ⟨?_, fun hm => ?_⟩
 · generalize (k.1.length - 1) / s * s = a at h1 ⊢
   generalize (k.1.length - 1) % s = b at h1 h2
   omega
 obtain ⟨q, hq⟩ := Nat.dvd_of_mod_eq_zero hm
 have hq0 : 0 < q := by
   cases q with
   | zero => rw [Nat.mul_zero] at hq; omega
   | succ q => omega
 have e : (k.1.length - 1) / s = q - 1 := by
   rw [hq]
   have : s * q - 1 = s * (q - 1) + (s - 1) := by
     have : s * q = s * (q - 1) + s := by rw [← Nat.mul_succ]; congr 1; omega
     omega
   rw [this, Nat.mul_add_div (by omega), Nat.div_eq_of_lt (by omega)]
   rfl
 rw [e, hq, Nat.mul_comm s q]
 have : q * s = (q - 1) * s + s := by rw [← Nat.succ_mul]; congr 1; omega
 exact this
theorem pred_far (s : Nat) (h k : Key) (hs : 1 ≤ s) (hk : k.1.length % s = 0) (hp : k.1 <+: h.1) (hlt : k.1.length < h.1.length) : k.1 <+: (pred s h).1 := by
 have hne : h.1 ≠ [] := fun e => by rw [e] at hlt; simp at hlt
 have hl := (pred_len s h hs hne).1
 have hle : k.1.length ≤ (h.1.length - 1) / s * s := by
   obtain ⟨q, hq⟩ := Nat.dvd_of_mod_eq_zero hk
   rw [hq, Nat.mul_comm]
   refine Nat.mul_le_mul_right _ ?_
   rw [Nat.le_div_iff_mul_le (by omega), Nat.mul_comm]
   omega
 have e1 : k.1 = h.1.take k.1.length := (List.prefix_iff_eq_take.1 hp)
 rw [e1]
 show _ <+: h.1.take _
 refine List.prefix_iff_eq_take.2 ?_
 rw [List.take_take]
 congr 1
 simp
 omega
theorem on_step (s : Nat) (h k : Key) (hs : 1 ≤ s) (hh : keyOk s h) : on s h k ↔ (k = h ∧ h.1 ≠ []) ∨ on s (pred s h) k := by
 unfold on
 constructor
 · rintro ⟨hne, rfl | ⟨h2, hm, hp⟩⟩
   · exact .inl ⟨rfl, hne⟩
   · by_cases hlt : k.1.length < h.1.length
     · exact .inr ⟨hne, .inr ⟨h2, hm, pred_far s h k hs hm hp hlt⟩⟩
     · left
       have e1 : k.1 = h.1 := hp.eq_of_length (by have := hp.length_le; omega)
       refine ⟨Prod.ext e1 ?_, by rw [← e1]; exact hne⟩
       rw [h2]
       exact (hh.2 (by rw [← e1]; exact hm)).symm
 · rintro (⟨rfl, hne⟩ | ⟨hne, rfl | ⟨h2, hm, hp⟩⟩)
   · exact ⟨hne, .inl rfl⟩
   · refine ⟨hne, .inr ⟨rfl, (pred_ok s h hs).1 rfl, List.take_prefix _ _⟩⟩
   · exact ⟨hne, .inr ⟨h2, hm, hp.trans (List.take_prefix _ _)⟩⟩
theorem on_nil (s : Nat) (k : Key) (t : Nat) : ¬ on s ([], t) k := by
 rintro ⟨hne, rfl | ⟨_, _, hp⟩⟩
 · exact hne rfl
 · exact hne (List.prefix_nil.1 hp)
theorem on_self (s : Nat) (h : Key) (hne : h.1 ≠ []) : on s h h := ⟨hne, .inl rfl⟩
theorem not_on_pred (s : Nat) (h : Key) (hs : 1 ≤ s) (hne : h.1 ≠ []) : ¬ on s (pred s h) h := by
 rintro ⟨_, e | ⟨_, _, hp⟩⟩
 · have := (pred_len s h hs hne).2
   rw [← e] at this
   omega
 · have := (pred_len s h hs hne).2
   have := hp.length_le
   omega
theorem on_trans (s : Nat) (h k j : Key) (h1 : on s h k) (h2 : on s k j) : on s h j := by
 obtain ⟨hk, rfl | ⟨k2, km, kp⟩⟩ := h1
 · exact h2
 · obtain ⟨hj, rfl | ⟨j2, jm, jp⟩⟩ := h2
   · exact ⟨hj, .inr ⟨k2, km, kp⟩⟩
   · exact ⟨hj, .inr ⟨j2, jm, jp.trans kp⟩⟩
def chain (s : Nat) (h : Key) : List Key := (List.range ((h.1.length + s - 1) / s)).map fun i => if (i + 1) * s ≤ h.1.length then (h.1.take ((i + 1) * s), 0) else h
theorem mem_chain (s : Nat) (h k : Key) (hs : 1 ≤ s) (hh : keyOk s h) : k ∈ chain s h ↔ on s h k := by
 unfold chain on
 rw [List.mem_map]
 constructor
 · rintro ⟨i, hi, rfl⟩
   rw [List.mem_range, Nat.lt_div_iff_mul_lt (by omega)] at hi
   have hlen : 0 < h.1.length := by omega
   split
   · rename_i hle
     have hl : (h.1.take ((i + 1) * s)).length = (i + 1) * s := by simp; omega
     have hpos : 0 < (i + 1) * s := Nat.mul_pos (by omega) (by omega)
     refine ⟨fun e => ?_, .inr ⟨rfl, by show (h.1.take _).length % s = 0; rw [hl]; simp, List.take_prefix _ _⟩⟩
     have e' : h.1.take ((i + 1) * s) = [] := e
     rw [e'] at hl
     simp only [List.length_nil] at hl
     omega
   · exact ⟨fun e => by rw [e] at hlen; simp at hlen, .inl rfl⟩
 · rintro ⟨hne, rfl | ⟨k2, km, kp⟩⟩
   · have h0 : 0 < k.1.length := List.length_pos_iff.2 hne
     refine ⟨(k.1.length - 1) / s, ?_, ?_⟩
     · rw [List.mem_range, Nat.lt_div_iff_mul_lt (by omega), Nat.mul_comm]
       have := Nat.div_mul_le_self (k.1.length - 1) s
       rw [Nat.mul_comm] at this
       omega
     · obtain ⟨g1, g2⟩ := pred_gap s k hs hne
       have gl := (pred_len s k hs hne).1
       by_cases hm : k.1.length % s = 0
       · have g3 := g2 hm
         have e : ((k.1.length - 1) / s + 1) * s = k.1.length := by rw [Nat.add_mul]; omega
         rw [if_pos (Nat.le_of_eq e), e]
         exact Prod.ext (by simp) (by simp; exact (hh.2 hm).symm)
       · rw [if_neg]
         intro hle
         rw [Nat.add_mul] at hle
         have : k.1.length = ((k.1.length - 1) / s + 1) * s := by rw [Nat.add_mul]; omega
         exact hm (by rw [this]; simp)
   · obtain ⟨q, hq⟩ := Nat.dvd_of_mod_eq_zero km
     have h0 : 0 < k.1.length := List.length_pos_iff.2 hne
     have hq0 : 0 < q := by
       cases q with
       | zero => rw [Nat.mul_zero] at hq; omega
       | succ q => omega
     have hle := kp.length_le
     have e : (q - 1 + 1) * s = k.1.length := by rw [hq, Nat.mul_comm]; congr 1; omega
     refine ⟨q - 1, ?_, ?_⟩
     · rw [List.mem_range, Nat.lt_div_iff_mul_lt (by omega), Nat.mul_comm]
       have : (q - 1) * s + s = k.1.length := by rw [← e, Nat.add_mul]; omega
       rw [Nat.mul_comm] at this
       omega
     · rw [e, if_pos hle]
       exact Prod.ext (List.prefix_iff_eq_take.1 kp).symm k2.symm
theorem chain_nil (s : Nat) (h : Key) (_hs : 1 ≤ s) (e : h.1 = []) : chain s h = [] := by
 unfold chain
 rw [e]
 have : (([] : List Nat).length + s - 1) / s = 0 := Nat.div_eq_of_lt (by simp; omega)
 rw [this]; rfl
theorem chain_step (s : Nat) (h : Key) (hs : 1 ≤ s) (hh : keyOk s h) (hne : h.1 ≠ []) : chain s h = chain s (pred s h) ++ [h] := by
 have h0 : 0 < h.1.length := List.length_pos_iff.2 hne
 obtain ⟨p1, p2⟩ := pred_len s h hs hne
 obtain ⟨g1, g2⟩ := pred_gap s h hs hne
 obtain ⟨m, hm⟩ : ∃ m, m = (h.1.length - 1) / s := ⟨_, rfl⟩
 rw [← hm] at p1
 have e1 : (h.1.length + s - 1) / s = m + 1 := by
   rw [show h.1.length + s - 1 = (h.1.length - 1) + s by omega, Nat.add_div_right _ (by omega), hm]
 have e2 : ((pred s h).1.length + s - 1) / s = m := by
   rw [p1, show m * s + s - 1 = s - 1 + m * s by omega, Nat.add_mul_div_right _ _ (by omega), Nat.div_eq_of_lt (by omega), Nat.zero_add]
 unfold chain
 rw [e1, e2, List.range_succ, List.map_append]
 congr 1
 · apply List.map_congr_left
   intro i hi
   have hi := List.mem_range.1 hi
   have hle : (i + 1) * s ≤ m * s := Nat.mul_le_mul_right _ hi
   rw [if_pos (by omega), if_pos (by omega)]
   refine Prod.ext ?_ rfl
   show h.1.take _ = (h.1.take _).take _
   rw [List.take_take]
   congr 1
   rw [← hm]
   omega
 · simp only [List.map_cons, List.map_nil]
   congr 1
   by_cases hmod : h.1.length % s = 0
   · have g3 := g2 hmod
     have e : (m + 1) * s = h.1.length := by rw [Nat.add_mul]; omega
     rw [if_pos (Nat.le_of_eq e), e]
     exact Prod.ext (by simp) (hh.2 hmod).symm
   · rw [if_neg]
     intro hle
     rw [Nat.add_mul] at hle
     have : h.1.length = (m + 1) * s := by rw [Nat.add_mul]; omega
     exact hmod (by rw [this]; simp)
def dd {α : Type} [DecidableEq α] : List α → List α
 | [] => []
 | a :: l => if a ∈ l then dd l else a :: dd l
theorem mem_dd {α : Type} [DecidableEq α] (l : List α) (x : α) : x ∈ dd l ↔ x ∈ l := by
 induction l with
 | nil => simp [dd]
 | cons a l ih =>
   unfold dd
   split
   · rename_i h
     rw [ih, List.mem_cons]
     exact ⟨.inr, fun h' => h'.elim (fun e => by rw [e]; exact h) id⟩
   · rw [List.mem_cons, List.mem_cons, ih]
theorem nodup_dd {α : Type} [DecidableEq α] (l : List α) : (dd l).Nodup := by
 induction l with
 | nil => simp [dd]
 | cons a l ih =>
   unfold dd
   split
   · exact ih
   · rename_i h
     rw [List.nodup_cons]
     exact ⟨fun h' => h ((mem_dd l a).1 h'), ih⟩
theorem nodup_le {α : Type} [DecidableEq α] {l m : List α} (h : l.Nodup) (hs : ∀ x ∈ l, x ∈ m) : l.length ≤ m.length := by
 induction l generalizing m with
 | nil => simp
 | cons a l ih =>
   rw [List.nodup_cons] at h
   have ha := hs a (by simp)
   have := ih (m := m.erase a) h.2 (fun x hx => (List.mem_erase_of_ne (fun e => h.1 (by rw [← e]; exact hx))).2 (hs x (by simp [hx])))
   rw [List.length_erase_of_mem ha] at this
   have h0 : 0 < m.length := List.length_pos_of_mem ha
   simp
   omega
theorem nodup_eq {α : Type} [DecidableEq α] {l m : List α} (h : l.Nodup) (h' : m.Nodup) (hs : ∀ x, x ∈ l ↔ x ∈ m) : l.length = m.length :=
 Nat.le_antisymm (nodup_le h (fun x hx => (hs x).1 hx)) (nodup_le h' (fun x hx => (hs x).2 hx))
def heldBy (s : Nat) (H : List Key) (k : Key) : Prop := ∃ h ∈ H, on s h k
instance (s : Nat) (H : List Key) (k : Key) : Decidable (heldBy s H k) := by unfold heldBy; infer_instance
def usedK (s : Nat) (H : List Key) : List Key := dd (H.flatMap (chain s))
def nUsed (s : Nat) (H : List Key) : Nat := (usedK s H).length
theorem mem_usedK (s : Nat) (H : List Key) (k : Key) (hs : 1 ≤ s) (hH : ∀ h ∈ H, keyOk s h) : k ∈ usedK s H ↔ heldBy s H k := by
 unfold usedK heldBy
 rw [mem_dd, List.mem_flatMap]
 constructor
 · rintro ⟨h, hh, hk⟩
   exact ⟨h, hh, (mem_chain s h k hs (hH h hh)).1 hk⟩
 · rintro ⟨h, hh, hk⟩
   exact ⟨h, hh, (mem_chain s h k hs (hH h hh)).2 hk⟩
theorem nUsed_eq (s : Nat) (H : List Key) (l : List Key) (hs : 1 ≤ s) (hH : ∀ h ∈ H, keyOk s h) (hl : l.Nodup) (hm : ∀ k, k ∈ l ↔ heldBy s H k) : nUsed s H = l.length :=
 nodup_eq (nodup_dd _) hl (fun k => by rw [hm k]; exact mem_usedK s H k hs hH)
theorem nUsed_congr (s : Nat) (H H' : List Key) (hs : 1 ≤ s) (hH : ∀ h ∈ H, keyOk s h) (hH' : ∀ h ∈ H', keyOk s h) (hm : ∀ k, heldBy s H k ↔ heldBy s H' k) : nUsed s H = nUsed s H' :=
 nUsed_eq s H _ hs hH (nodup_dd _) (fun k => by rw [mem_usedK s H' k hs hH']; exact (hm k).symm)
theorem heldBy_cons (s : Nat) (h : Key) (H : List Key) (k : Key) : heldBy s (h :: H) k ↔ on s h k ∨ heldBy s H k := by
 unfold heldBy
 simp
theorem nUsed_step (s : Nat) (h : Key) (H : List Key) (hs : 1 ≤ s) (hh : keyOk s h) (hH : ∀ h ∈ H, keyOk s h) (hne : h.1 ≠ []) : nUsed s (h :: H) = nUsed s (pred s h :: H) + if heldBy s H h then 0 else 1 := by
 have ok1 : ∀ x ∈ h :: H, keyOk s x := by
   intro x hx
   rcases List.mem_cons.1 hx with rfl | hx
   · exact hh
   · exact hH x hx
 have ok2 : ∀ x ∈ pred s h :: H, keyOk s x := by
   intro x hx
   rcases List.mem_cons.1 hx with rfl | hx
   · exact pred_ok s h hs
   · exact hH x hx
 have key : ∀ k, heldBy s (h :: H) k ↔ k = h ∨ heldBy s (pred s h :: H) k := fun k => by
   rw [heldBy_cons, heldBy_cons, on_step s h k hs hh]
   constructor
   · rintro ((⟨e, _⟩ | e) | e)
     · exact .inl e
     · exact .inr (.inl e)
     · exact .inr (.inr e)
   · rintro (e | e | e)
     · exact .inl (.inl ⟨e, hne⟩)
     · exact .inl (.inr e)
     · exact .inr e
 by_cases hb : heldBy s H h
 · rw [if_pos hb]
   refine nUsed_congr s _ _ hs ok1 ok2 (fun k => ?_)
   rw [key k]
   exact ⟨fun h' => h'.elim (fun e => by rw [e, heldBy_cons]; exact .inr hb) id, .inr⟩
 · rw [if_neg hb]
   have hn : h ∉ usedK s (pred s h :: H) := fun hm => by
     rw [mem_usedK s _ h hs ok2, heldBy_cons] at hm
     exact hm.elim (not_on_pred s h hs hne) hb
   have := nUsed_eq s (h :: H) (h :: usedK s (pred s h :: H)) hs ok1 (List.nodup_cons.2 ⟨hn, nodup_dd _⟩) (fun k => by rw [List.mem_cons, mem_usedK s _ k hs ok2]; exact (key k).symm)
   rw [this]
   rfl
theorem nUsed_nil (s : Nat) (H : List Key) (t : Nat) (hs : 1 ≤ s) (hH : ∀ h ∈ H, keyOk s h) (ht : t = 0) : nUsed s (([], t) :: H) = nUsed s H := by
 refine nUsed_congr s _ _ hs (fun x hx => ?_) hH (fun k => ?_)
 · rcases List.mem_cons.1 hx with rfl | hx
   · simp [keyOk, ht]
   · exact hH x hx
 · rw [heldBy_cons]
   exact ⟨fun h => h.elim (fun e => absurd e (on_nil s k t)) id, .inr⟩
theorem nUsed_perm (s : Nat) (H H' : List Key) (hs : 1 ≤ s) (hH : ∀ h ∈ H, keyOk s h) (hm : ∀ h, h ∈ H ↔ h ∈ H') : nUsed s H = nUsed s H' :=
 nUsed_congr s H H' hs hH (fun h hh => hH h ((hm h).2 hh)) (fun _ => ⟨fun ⟨h, hh, e⟩ => ⟨h, (hm h).1 hh, e⟩, fun ⟨h, hh, e⟩ => ⟨h, (hm h).2 hh, e⟩⟩)
end Go.Proofs.Ytlmflighkkgikaa
namespace Go.Proofs.Ytlmflighkkgikaa
open Go.RowKit
attribute [local go_sem ↓] Go.wp_at_zero Go.wp_at_succ
def blkV : Option Nat → Value
 | none => .pointer none
 | some B => .pointer (some ⟨B, 0, none⟩)
def nodeV : Option (Nat × Nat) → Option Value
 | none => none
 | some a => some (.pointer (some ⟨a.1, a.2, none⟩))
def kidsOf (N : List Nat → Option (Nat × Nat)) (p : List Nat) (x : Int) : Option Value := if 0 ≤ x then nodeV (N (p ++ [x.toNat])) else none
def kidsN (N : List Nat → Option (Nat × Nat)) (p : List Nat) : Nat := (List.range 1001).countP fun t => (N (p ++ [t])).isSome
theorem kidsN_le (N : List Nat → Option (Nat × Nat)) (p : List Nat) : kidsN N p ≤ 1001 := by
 unfold kidsN
 have := List.countP_le_length (p := fun t => (N (p ++ [t])).isSome) (l := List.range 1001)
 simpa using this
theorem kidsN_congr {N N' : List Nat → Option (Nat × Nat)} {p : List Nat} (h : ∀ t, N (p ++ [t]) = N' (p ++ [t])) : kidsN N p = kidsN N' p := by
 unfold kidsN; congr 1; funext t; rw [h t]
theorem kidsN_more {N N' : List Nat → Option (Nat × Nat)} {p : List Nat} {t : Nat} (ht : t ≤ 1000) (h0 : N (p ++ [t]) = none) (h1 : N' (p ++ [t]) ≠ none) (h : ∀ u, u ≠ t → N' (p ++ [u]) = N (p ++ [u])) : kidsN N' p = kidsN N p + 1 := by
 unfold kidsN
 have go : ∀ n, (List.range n).countP (fun u => (N' (p ++ [u])).isSome) = (List.range n).countP (fun u => (N (p ++ [u])).isSome) + if t < n then 1 else 0 := by
   intro n
   induction n with
   | zero => simp
   | succ n ih =>
     rw [List.range_succ, List.countP_append, List.countP_append, ih]
     by_cases e : n = t
     · subst e
       have q : (N' (p ++ [n])).isSome = true := by
         cases hn : N' (p ++ [n]) with
         | none => exact absurd hn h1
         | some _ => rfl
       simp [h0, q]
     · rw [List.countP_singleton, List.countP_singleton, h n e]
       by_cases e2 : t < n
       · simp only [if_pos e2, if_pos (show t < n + 1 by omega)]; omega
       · simp only [if_neg e2, if_neg (show ¬ t < n + 1 by omega)]; omega
 rw [go 1001, if_pos (by omega)]
theorem kidsN_zero {N : List Nat → Option (Nat × Nat)} {p : List Nat} (h : kidsN N p = 0) (t : Nat) (ht : t ≤ 1000) : N (p ++ [t]) = none := by
 unfold kidsN at h
 rw [List.countP_eq_zero] at h
 have := h t (List.mem_range.2 (by omega))
 cases hn : N (p ++ [t]) with
 | none => rfl
 | some _ => rw [hn] at this; simp at this
structure TreeI (w : World) (F : Nat → Prop) (N : List Nat → Option (Nat × Nat)) (M : List Nat → Option Nat) (V : List Nat → Option Nat) : Prop where
 root : ∃ a, N [] = some a
 node : ∀ p a, N p = some a → ∃ (arr : Array Value) (ty : TypeId), w.heap[a.1]? = some (.cells arr ty (0, 0)) ∧ arr[a.2]? = some (.map (M p)) ∧ arr[a.2 + 1]? = some (blkV (V p)) ∧ arr[a.2 + 2]? = some (.bool (V p).isSome)
 bare : ∀ p, N p ≠ none → M p = none → ∀ t, N (p ++ [t]) = none
 kids : ∀ p b, N p ≠ none → M p = some b → MapV Try.prog 3 w b (kidsN N p) (kidsOf N p)
 pre : ∀ p t, N (p ++ [t]) ≠ none → N p ≠ none
 inj : ∀ p q a a', N p = some a → N q = some a' → a.1 = a'.1 → p = q
 minj : ∀ p q b, N p ≠ none → N q ≠ none → M p = some b → M q = some b → p = q
 told : ∀ p, V p ≠ none → N p ≠ none
 foot : ∀ p a, N p = some a → F a.1
 mfoot : ∀ p b, N p ≠ none → M p = some b → F b
 kind : ∀ p a arr ty fr, N p = some a → w.heap[a.1]? = some (.cells arr ty fr) → ty = 73 ∨ ty = 67
 low : ∀ p t, N (p ++ [t]) ≠ none → t ≤ 1000
theorem TreeI.none_on {w : World} {F : Nat → Prop} {N : List Nat → Option (Nat × Nat)} {M : List Nat → Option Nat} {V : List Nat → Option Nat} (h : TreeI w F N M V) (p q : List Nat) (hp : N p = none) : N (p ++ q) = none := by
 induction q generalizing p with
 | nil => simpa using hp
 | cons t q ih =>
   have e : p ++ t :: q = (p ++ [t]) ++ q := by simp
   rw [e]
   refine ih _ ?_
   cases hn : N (p ++ [t]) with
   | none => rfl
   | some a => exact absurd hp (h.pre p t (by rw [hn]; simp))
theorem TreeI.keep {w w' : World} {F : Nat → Prop} {N : List Nat → Option (Nat × Nat)} {M : List Nat → Option Nat} {V : List Nat → Option Nat} (h : TreeI w F N M V) (hk : ∀ k, F k → w'.heap[k]? = w.heap[k]?) : TreeI w' F N M V :=
 ⟨h.root, fun p a hp => by rw [hk _ (h.foot p a hp)]; exact h.node p a hp, h.bare, fun p b hp hm => by
   exact (h.kids p b hp hm).keep (hk _ (h.mfoot p b hp hm)), h.pre, h.inj, h.minj, h.told, h.foot, h.mfoot, fun p a arr ty fr hp ha => by rw [hk _ (h.foot p a hp)] at ha; exact h.kind p a arr ty fr hp ha, h.low⟩
theorem TreeI.keepT {w w' : World} {F : Nat → Prop} {N : List Nat → Option (Nat × Nat)} {M : List Nat → Option Nat} {V : List Nat → Option Nat} (h : TreeI w F N M V) (h1 : ∀ p a, N p = some a → w'.heap[a.1]? = w.heap[a.1]?) (h2 : ∀ p b, N p ≠ none → M p = some b → w'.heap[b]? = w.heap[b]?) : TreeI w' F N M V :=
 ⟨h.root, fun p a hp => by rw [h1 p a hp]; exact h.node p a hp, h.bare, fun p b hp hm => by
   exact (h.kids p b hp hm).keep (h2 p b hp hm), h.pre, h.inj, h.minj, h.told, h.foot, h.mfoot, fun p a arr ty fr hp ha => by rw [h1 p a hp] at ha; exact h.kind p a arr ty fr hp ha, h.low⟩
theorem Try.zero_node (w : World) : (zeroValue 127).run Try.prog w = .ok (.pointer none) w := by
 have h : (Try.prog.info? 127).map (fun i => i.zero) = some (some (.pointer none)) := by kernel_rfl
 cases hi : Try.prog.info? 127 with
 | none => rw [hi] at h; cases h
 | some i =>
   rw [hi] at h
   simp at h
   simp [zeroValue, typeInfo, hi, h, go_sem]
theorem int_wf (x : Int) (h1 : -9223372036854775808 ≤ x) (h2 : x ≤ 9223372036854775807) : (Lit.int .i64 x).wf = true := by
 have e1 : IntKind.i64.min = -9223372036854775808 := rfl
 have e2 : IntKind.i64.max = 9223372036854775807 := rfl
 simp [Lit.wf, e1, e2]
 omega
theorem TreeI.look {w : World} {F : Nat → Prop} {N : List Nat → Option (Nat × Nat)} {M : List Nat → Option Nat} {V : List Nat → Option Nat} (h : TreeI w F N M V) (p : List Nat) (hp : N p ≠ none) (t : Nat) (ht : t ≤ 1000) :
   (Instr.lookup 65 (.map (M p)) (.int .i64 t) true).run Try.prog w = .ok (.tuple #[(nodeV (N (p ++ [t]))).getD (.pointer none), .bool (N (p ++ [t])).isSome]) w := by
 have hwf : (Lit.int .i64 (t : Int)).wf = true := int_wf t (by omega) (by omega)
 cases hm : M p with
 | none =>
   rw [Maps.look_nil true (Maps.int_keyed Try.underlying3) Try.underlying65 (Try.zero_node w) (Maps.keyOf_int_mk Try.underlying3 hwf), h.bare p hp hm t]
   rfl
 | some b =>
   have hv := h.kids p b hp hm
   rw [hv.look Try.underlying3 Try.underlying65 (Try.zero_node w) t hwf]
   unfold kidsOf
   rw [if_pos (by omega), Int.toNat_natCast]
   cases N (p ++ [t]) <;> rfl
theorem snoc_inj {p q : List Nat} {a b : Nat} (h : p ++ [a] = q ++ [b]) : p = q ∧ a = b := by
 have := List.append_inj' h rfl
 simpa using this
def NodeOut (N : List Nat → Option (Nat × Nat)) (w w' : World) : Prop :=
 ∀ p a (arr : Array Value) ty, N p = some a → w.heap[a.1]? = some (.cells arr ty (0, 0)) → ∃ arr' : Array Value, w'.heap[a.1]? = some (.cells arr' ty (0, 0)) ∧ arr'.size = arr.size ∧ ∀ j, (j < a.2 ∨ a.2 + 2 < j) → arr'[j]? = arr[j]?
theorem NodeOut.refl (N : List Nat → Option (Nat × Nat)) (w : World) : NodeOut N w w := fun _ _ arr _ _ h => ⟨arr, h, rfl, fun _ _ => rfl⟩
theorem NodeOut.trans {N N' : List Nat → Option (Nat × Nat)} {w w' w'' : World} (h : NodeOut N w w') (h' : NodeOut N' w' w'') (hm : ∀ q a, N q = some a → N' q = some a) : NodeOut N w w'' := fun p a arr ty hp ha => by
 obtain ⟨arr', q1, q2, q3⟩ := h p a arr ty hp ha
 obtain ⟨arr'', r1, r2, r3⟩ := h' p a arr' ty (hm p a hp) q1
 exact ⟨arr'', r1, by omega, fun j hj => (r3 j hj).trans (q3 j hj)⟩
theorem TreeI.addMap {w : World} {F : Nat → Prop} {N : List Nat → Option (Nat × Nat)} {M : List Nat → Option Nat} {V : List Nat → Option Nat} (h : TreeI w F N M V) (p : List Nat) (b off : Nat) (hp : N p = some (b, off)) (hm : M p = none) :
   TreeI ((w.alloc (.map #[] 0)).setCell ⟨b, off, none⟩ (.map (some w.heap.size))) (fun k => F k ∨ w.heap.size ≤ k) N (fun q => if q = p then some w.heap.size else M q) V ∧ Only F w ((w.alloc (.map #[] 0)).setCell ⟨b, off, none⟩ (.map (some w.heap.size))) ∧ NodeOut N w ((w.alloc (.map #[] 0)).setCell ⟨b, off, none⟩ (.map (some w.heap.size))) := by
 obtain ⟨arr, ty, n0, n1, n2, n3⟩ := h.node p _ hp
 simp only [] at n0 n1 n2 n3
 have hbl := lt_blk n0
 have n0' : (w.alloc (.map #[] 0)).heap[b]? = some (.cells arr ty (0, 0)) := by rw [alloc_old _ _ _ hbl]; exact n0
 have far : ∀ k o, w.heap[k]? = some o → k ≠ b → ((w.alloc (.map #[] 0)).setCell ⟨b, off, none⟩ (.map (some w.heap.size))).heap[k]? = some o := fun k o hk hne => by
   rw [setCell_far _ _ _ _ _ hne, alloc_old _ _ _ (lt_blk hk)]; exact hk
 have mapne : ∀ mb cnt g, MapV Try.prog 3 w mb cnt g → mb ≠ b := fun mb cnt g hv e => by
   obtain ⟨es, cl, ho⟩ := hv.obj
   rw [e, n0] at ho; cases ho
 refine ⟨⟨h.root, fun q a hq => ?_, fun q hq hmq t => ?_, fun q mb hq hmq => ?_, h.pre, h.inj, fun q r mb hq hr hmq hmr => ?_, h.told, fun q a hq => .inl (h.foot q a hq), fun q mb hq hmq => ?_, fun q a arr2 ty2 fr2 hq ha => ?_, h.low⟩, ((Only.refl F w).alloc _).setCell (fun _ => h.foot p _ hp) _, fun q a arr2 ty2 hq ha => ?_⟩
 · by_cases e : q = p
   · subst e
     rw [hp] at hq
     injection hq with hq
     subst hq
     refine ⟨arr.setIfInBounds off (.map (some w.heap.size)), ty, setCell_blk n0' _ _, ?_, ?_, ?_⟩
     · have hlt := (Array.getElem?_eq_some_iff.1 n1).1
       simp [hlt]
     · rw [Array.getElem?_setIfInBounds_ne (by simp)]; exact n2
     · rw [Array.getElem?_setIfInBounds_ne (by simp)]; exact n3
   · obtain ⟨arr', ty', m0, m1, m2, m3⟩ := h.node q a hq
     have hne : a.1 ≠ b := fun e' => e (h.inj q p a (b, off) hq hp e')
     exact ⟨arr', ty', far _ _ m0 hne, by simp only [if_neg e]; exact m1, m2, m3⟩
 · by_cases e : q = p
   · simp [e] at hmq
   · simp only [if_neg e] at hmq; exact h.bare q hq hmq t
 · by_cases e : q = p
   · subst e
     simp only [if_true] at hmq
     injection hmq with hmq
     subst hmq
     have hv := (MapV.made Try.prog 3 w).keep (w' := (w.alloc (.map #[] 0)).setCell ⟨b, off, none⟩ (.map (some w.heap.size))) (by rw [setCell_far _ _ _ _ _ (by omega)])
     have e2 : kidsOf N q = fun _ => none := by
       funext x
       unfold kidsOf
       by_cases hx : 0 ≤ x
       · rw [if_pos hx, h.bare q hq hm]; rfl
       · rw [if_neg hx]
     have e3 : kidsN N q = 0 := by
       unfold kidsN
       rw [List.countP_eq_zero]
       intro t _
       rw [h.bare q hq hm t]
       simp
     rw [e2, e3]; exact hv
   · simp only [if_neg e] at hmq
     have hv := h.kids q mb hq hmq
     refine hv.keep ?_
     rw [setCell_far _ _ _ _ _ (mapne _ _ _ hv), alloc_old _ _ _ hv.lt]
 · have nof : ∀ q mb, N q ≠ none → M q = some mb → mb < w.heap.size := fun q mb hq hmq => by
     exact (h.kids q mb hq hmq).lt
   by_cases e : q = p
   · by_cases e' : r = p
     · rw [e, e']
     · simp only [if_pos e] at hmq
       simp only [if_neg e'] at hmr
       injection hmq with hmq
       have := nof r mb hr hmr
       omega
   · by_cases e' : r = p
     · simp only [if_neg e] at hmq
       simp only [if_pos e'] at hmr
       injection hmr with hmr
       have := nof q mb hq hmq
       omega
     · simp only [if_neg e] at hmq
       simp only [if_neg e'] at hmr
       exact h.minj q r mb hq hr hmq hmr
 · by_cases e : q = p
   · simp only [if_pos e] at hmq
     injection hmq with hmq
     right; omega
   · simp only [if_neg e] at hmq
     exact .inl (h.mfoot q mb hq hmq)
 · by_cases e : q = p
   · subst e
     rw [hp] at hq
     injection hq with hq
     subst hq
     rw [setCell_blk n0'] at ha
     injection ha with ha
     injection ha with _ ha _
     rw [← ha]; exact h.kind q _ arr ty _ hp n0
   · obtain ⟨arr', ty', m0, _⟩ := h.node q a hq
     rw [far _ _ m0 (fun e' => e (h.inj q p a (b, off) hq hp e'))] at ha
     injection ha with ha
     injection ha with _ ha _
     rw [← ha]; exact h.kind q a arr' ty' _ hq m0
 · by_cases e : q = p
   · subst e
     rw [hp] at hq
     injection hq with hq
     subst hq
     simp only [] at ha
     rw [n0] at ha
     injection ha with ha
     injection ha with ha1 ha2 _
     subst ha1 ha2
     exact ⟨_, setCell_blk n0' _ _, by simp, fun j hj => Array.getElem?_setIfInBounds_ne (by simp at hj; omega)⟩
   · exact ⟨arr2, far _ _ ha (fun e' => e (h.inj q p a (b, off) hq hp e')), rfl, fun _ _ => rfl⟩
theorem TreeI.addNode {w w' : World} {F : Nat → Prop} {N : List Nat → Option (Nat × Nat)} {M : List Nat → Option Nat} {V : List Nat → Option Nat} (h : TreeI w F N M V) (p : List Nat) (t mb : Nat) (hp : N p ≠ none) (hm : M p = some mb) (hn : N (p ++ [t]) = none) (htl : t ≤ 1000)
   (hg : (w.alloc (.cells #[.map none, .pointer none, .bool false] 67)).grownBy w' (some mb))
   (hv : MapV Try.prog 3 w' mb (kidsN N p + 1) (fun y => if y = (t : Int) then some (.pointer (some ⟨w.heap.size, 0, none⟩)) else kidsOf N p y)) :
   TreeI w' (fun k => F k ∨ w.heap.size ≤ k) (fun q => if q = p ++ [t] then some (w.heap.size, 0) else N q) (fun q => if q = p ++ [t] then none else M q) V ∧ Only F w w' ∧ NodeOut N w w' := by
 have hne0 : p ≠ p ++ [t] := fun e => by have := congrArg List.length e; simp at this
 have hnone : ∀ u, N (p ++ [t] ++ [u]) = none := fun u => h.none_on _ _ hn
 have hmlt : mb < w.heap.size := by
   exact (h.kids p mb hp hm).lt
 have old : ∀ k o, w.heap[k]? = some o → k ≠ mb → w'.heap[k]? = some o := fun k o hk hne => by
   rw [hg.block k (by simp; have := lt_blk hk; omega) (fun e => hne (by injection e)), alloc_old _ _ _ (lt_blk hk)]; exact hk
 have hnew : w'.heap[w.heap.size]? = some (.cells #[.map none, .pointer none, .bool false] 67 (0, 0)) := by
   rw [hg.block w.heap.size (by simp) (fun e => by injection e with e; omega)]; exact alloc_new _ _
 have cellne : ∀ b arr ty, w.heap[b]? = some (.cells arr ty (0, 0)) → b ≠ mb := fun b arr ty hb e => by
   obtain ⟨es, cl, ho⟩ := (h.kids p mb hp hm).obj
   rw [e, ho] at hb; cases hb
 have hVn : V (p ++ [t]) = none := by
   cases hv : V (p ++ [t]) with
   | none => rfl
   | some B => exact absurd hn (h.told _ (by rw [hv]; simp))
 have lt_node : ∀ q a, N q = some a → a.1 < w.heap.size := fun q a hq => by
   obtain ⟨arr, ty, m0, _⟩ := h.node q a hq
   exact lt_blk m0
 refine ⟨⟨?_, fun q a hq => ?_, fun q hq hmq u => ?_, fun q b hq hmq => ?_, fun q u hq => ?_, fun q r a a' hq hr e => ?_, fun q r b hq hr hmq hmr => ?_, fun q hq => ?_, fun q a hq => ?_, fun q b hq hmq => ?_, fun q a arr2 ty2 fr2 hq ha => ?_, fun q u hq => ?_⟩, ?_, fun q a arr2 ty2 hq ha => ⟨arr2, old _ _ ha (cellne _ _ _ ha), rfl, fun _ _ => rfl⟩⟩
 · obtain ⟨a, ha⟩ := h.root
   exact ⟨a, by rw [if_neg (fun e => by have := congrArg List.length e; simp at this)]; exact ha⟩
 · by_cases e : q = p ++ [t]
   · simp only [if_pos e] at hq ⊢
     injection hq with hq
     subst hq
     rw [e, hVn]
     exact ⟨_, _, hnew, rfl, rfl, rfl⟩
   · simp only [if_neg e] at hq ⊢
     obtain ⟨arr, ty, m0, m1, m2, m3⟩ := h.node q a hq
     exact ⟨arr, ty, old _ _ m0 (cellne _ _ _ m0), m1, m2, m3⟩
 · by_cases e : q = p ++ [t]
   · subst e
     rw [if_neg (fun e => by have := congrArg List.length e; simp at this)]
     exact hnone u
   · simp only [if_neg e] at hq hmq
     have h1 := h.bare q hq hmq u
     rw [if_neg (fun e' => by
       obtain ⟨rfl, rfl⟩ := snoc_inj e'
       rw [hm] at hmq; cases hmq)]
     exact h1
 · by_cases e : q = p ++ [t]
   · simp [e] at hmq
   · simp only [if_neg e] at hq hmq
     by_cases e2 : q = p
     · subst e2
       rw [hm] at hmq
       injection hmq with hmq
       subst hmq
       have e4 : kidsN (fun r => if r = q ++ [t] then some (w.heap.size, 0) else N r) q = kidsN N q + 1 := kidsN_more htl hn (by simp) (fun u hu => if_neg (fun e => hu (snoc_inj e).2))
       rw [e4]
       have e3 : kidsOf (fun r => if r = q ++ [t] then some (w.heap.size, 0) else N r) q = fun y => if y = (t : Int) then some (.pointer (some ⟨w.heap.size, 0, none⟩)) else kidsOf N q y := by
         funext y
         unfold kidsOf
         dsimp only
         by_cases hy : y = (t : Int)
         · subst hy
           rw [if_pos (by omega), if_pos rfl, if_pos (by simp)]; rfl
         · rw [if_neg hy]
           by_cases h0 : 0 ≤ y
           · rw [if_pos h0, if_pos h0, if_neg (fun e => by
               have := (snoc_inj e).2
               omega)]
           · rw [if_neg h0, if_neg h0]
       rw [e3]; exact hv
     · have hv0 := h.kids q b hq hmq
       have hbne : b ≠ mb := fun e' => e2 (h.minj q p b hq hp hmq (by rw [e']; exact hm))
       have e4 : kidsN (fun r => if r = p ++ [t] then some (w.heap.size, 0) else N r) q = kidsN N q := kidsN_congr (fun u => if_neg (fun e => e2 (snoc_inj e).1))
       rw [e4]
       have e3 : kidsOf (fun r => if r = p ++ [t] then some (w.heap.size, 0) else N r) q = kidsOf N q := by
         funext y
         unfold kidsOf
         dsimp only
         rw [if_neg (fun e => e2 (snoc_inj e).1)]
       rw [e3]
       refine hv0.keep ?_
       obtain ⟨es, cl, ho⟩ := hv0.obj
       rw [ho]; exact old _ _ ho hbne
 · by_cases e : q ++ [u] = p ++ [t]
   · obtain ⟨rfl, rfl⟩ := snoc_inj e
     rw [if_neg hne0]; exact hp
   · simp only [if_neg e] at hq
     have := h.pre q u hq
     by_cases e2 : q = p ++ [t]
     · simp [e2]
     · rw [if_neg e2]; exact this
 · by_cases e1 : q = p ++ [t]
   · by_cases e2 : r = p ++ [t]
     · rw [e1, e2]
     · simp only [if_pos e1] at hq
       simp only [if_neg e2] at hr
       injection hq with hq
       have := lt_node r a' hr
       rw [← hq] at e
       simp at e
       omega
   · by_cases e2 : r = p ++ [t]
     · simp only [if_neg e1] at hq
       simp only [if_pos e2] at hr
       injection hr with hr
       have := lt_node q a hq
       rw [← hr] at e
       simp at e
       omega
     · simp only [if_neg e1] at hq
       simp only [if_neg e2] at hr
       exact h.inj q r a a' hq hr e
 · by_cases e1 : q = p ++ [t]
   · simp [e1] at hmq
   · by_cases e2 : r = p ++ [t]
     · simp [e2] at hmr
     · simp only [if_neg e1] at hq hmq
       simp only [if_neg e2] at hr hmr
       exact h.minj q r b hq hr hmq hmr
 · by_cases e : q = p ++ [t]
   · simp [e]
   · rw [if_neg e]; exact h.told q hq
 · by_cases e : q = p ++ [t]
   · simp only [if_pos e] at hq
     injection hq with hq
     subst hq
     exact .inr (Nat.le_refl _)
   · simp only [if_neg e] at hq
     exact .inl (h.foot q a hq)
 · by_cases e : q = p ++ [t]
   · simp [e] at hmq
   · simp only [if_neg e] at hq hmq
     exact .inl (h.mfoot q b hq hmq)
 · by_cases e : q = p ++ [t]
   · simp only [if_pos e] at hq
     injection hq with hq
     subst hq
     rw [hnew] at ha
     injection ha with ha
     injection ha with _ ha _
     exact .inr ha.symm
   · simp only [if_neg e] at hq
     obtain ⟨arr', ty', m0, _⟩ := h.node q a hq
     rw [old _ _ m0 (cellne _ _ _ m0)] at ha
     injection ha with ha
     injection ha with _ ha _
     rw [← ha]; exact h.kind q a arr' ty' _ hq m0
 · by_cases e : q ++ [u] = p ++ [t]
   · rw [(snoc_inj e).2]; exact htl
   · simp only [if_neg e] at hq; exact h.low q u hq
 · exact ((Only.refl F w).alloc _).grown hg (fun g hgg _ => by injection hgg with hgg; subst hgg; exact h.mfoot p _ hp hm)
def OwnTk (ok : Nat → Prop) (base : Nat) (w : World) (v : Value) (l : List (List Nat)) : Prop := ∃ vs, w.ownsRow base 24 1 v l.length ((List.range l.length).map vs) ∧ ∀ i, i < l.length → TokT w (vs i) (l.getD i []) ∧ okV ok (vs i)
theorem OwnTk.toks {ok : Nat → Prop} {base : Nat} {w : World} {v : Value} {l : List (List Nat)} (h : OwnTk ok base w v l) : OwnToks base w v l := by
 obtain ⟨vs, h1, h2⟩ := h
 exact ⟨vs, h1, fun i hi => (h2 i hi).1⟩
theorem OwnTk.nil (ok : Nat → Prop) (base : Nat) (w : World) : OwnTk ok base w (.slice none 0 0) [] := ⟨fun _ => undef, World.ownsRow_nil _ _ _ _, fun i hi => absurd hi (by simp)⟩
theorem OwnTk.push {ok : Nat → Prop} {base : Nat} {w w' : World} {v' x : Value} {l : List (List Nat)} {T : List Nat} (vs : Nat → Value) (hvs : ∀ i, i < l.length → TokT w (vs i) (l.getD i []) ∧ okV ok (vs i))
   (hown : w'.ownsRow base 24 1 v' (l.length + 1) ((List.range l.length).map vs ++ [x])) (hk : KeepT 3 w w') (hx : TokT w x T) (hox : okV ok x) : OwnTk ok base w' v' (l ++ [T]) := by
 refine ⟨fun i => if i = l.length then x else vs i, ?_, fun i hi => ?_⟩
 · have e : (List.range (l ++ [T]).length).map (fun i => if i = l.length then x else vs i) = (List.range l.length).map vs ++ [x] := by
     rw [List.length_append, List.length_singleton, range_map_succ, if_pos rfl]
     congr 1
     apply List.map_congr_left
     intro i hi
     rw [if_neg (by have := List.mem_range.1 hi; omega)]
   rw [e, List.length_append, List.length_singleton]; exact hown
 · rw [List.length_append, List.length_singleton] at hi
   by_cases e : i = l.length
   · subst e
     simp only [if_true]
     rw [List.getD_eq_getElem?_getD, List.getElem?_append_right (Nat.le_refl _)]
     simp
     exact ⟨hx.keep hk, hox⟩
   · simp only [if_neg e]
     rw [List.getD_eq_getElem?_getD, List.getElem?_append_left (by omega), ← List.getD_eq_getElem?_getD]
     exact ⟨(hvs i (by omega)).1.keep hk, (hvs i (by omega)).2⟩
end Go.Proofs.Ytlmflighkkgikaa
namespace Go.Proofs.Ytlmflighkkgikaa
def badTok (v : Nat) (x : Int) : Prop := x < 0 ∨ (v : Int) ≤ x
def natsOf (n : Nat) (f : Nat → Int) : List Nat := (List.range n).map fun j => (f j).toNat
theorem natsOf_len (n : Nat) (f : Nat → Int) : (natsOf n f).length = n := by simp [natsOf]
theorem natsOf_tk (n : Nat) (f : Nat → Int) (j : Nat) (h : j < n) (h0 : 0 ≤ f j) : tkI (natsOf n f) j = f j := by
 unfold tkI tkN natsOf
 rw [List.getD_eq_getElem?_getD]
 simp [h]
 omega
end Go.Proofs.Ytlmflighkkgikaa
