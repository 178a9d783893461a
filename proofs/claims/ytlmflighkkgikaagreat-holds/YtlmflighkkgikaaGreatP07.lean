import Derived.BigQuiet
import Derived.Deep.QuietTactic
import Derived.Test.YtlmflighkkgikaaGreatP01
import Derived.Test.YtlmflighkkgikaaGreatP06

namespace Go.Proofs.YtlmflighkkgikaaGreat
open Go.RowKit
def tkN (T : List Nat) (j : Nat) : Nat := T.getD j 0
def tkI (T : List Nat) (j : Nat) : Int := (tkN T j : Int)
def TokT (w : World) (v : Value) (T : List Nat) : Prop := IntsT w v T.length (tkI T)
theorem tkN_eq {T U : List Nat} (h : T.length = U.length) (e : ∀ j, j < T.length → tkN T j = tkN U j) : T = U := by
 apply List.ext_getElem h
 intro i h1 h2
 have := e i h1
 unfold tkN at this
 simpa [List.getD_eq_getElem?_getD, h1, h2] using this
theorem sameI_tk (T U : List Nat) : sameI T.length U.length (tkI T) (tkI U) = decide (T = U) := by
 by_cases h : T = U
 · subst h
   have : sameTo (tkI T) (tkI T) T.length = true := (sameTo_iff _ _ _).2 (fun _ _ => rfl)
   simp [sameI, this]
 · rw [decide_eq_false h]
   cases e : sameI T.length U.length (tkI T) (tkI U) with
   | false => rfl
   | true =>
     unfold sameI at e
     simp only [Bool.and_eq_true, beq_iff_eq] at e
     exact absurd (tkN_eq e.1 (fun j hj => by have := (sameTo_iff _ _ _).1 e.2 j hj; unfold tkI at this; omega)) h
theorem tkN_take (T : List Nat) (k j : Nat) (h : j < k) : tkN (T.take k) j = tkN T j := by
 unfold tkN; simp [List.getD_eq_getElem?_getD, h]
theorem TokT.keep {w w' : World} {v : Value} {T : List Nat} (h : TokT w v T) (hk : KeepT 3 w w') : TokT w' v T := IntsT.keep h hk
theorem TokT.slice {w : World} {v : Value} {T : List Nat} (h : TokT w v T) : ∃ a c, v = .slice a T.length c ∧ T.length ≤ c ∧ c ≤ maxLen := by
 obtain ⟨a, c, e, h1, h2, _⟩ := h
 exact ⟨a, c, e, h1, h2⟩
theorem TokT.take {w : World} {a : Option Addr} {n c : Nat} {T : List Nat} (h : TokT w (.slice a n c) T) (k : Nat) (hk : k ≤ T.length) : TokT w (.slice a k c) (T.take k) := by
 obtain ⟨a', c', e, h1, h2, h3⟩ := h
 injection e with e1 e2 e3
 subst e1 e2 e3
 have hl : (T.take k).length = k := by simp; omega
 unfold TokT
 rw [hl]
 refine ⟨a, c, rfl, by omega, h2, fun h0 => ?_⟩
 obtain ⟨b, off, cur, fr, ea, hb, hc⟩ := h3 (by omega)
 exact ⟨b, off, cur, fr, ea, hb, fun j hj => by rw [hc j (by omega)]; unfold tkI; rw [tkN_take T k j hj]⟩
def TokRow (w : World) (v : Value) (l : List (List Nat)) : Prop := ∃ vs, Row w v l.length vs ∧ ∀ i, i < l.length → TokT w (vs i) (l.getD i [])
def OwnToks (base : Nat) (w : World) (v : Value) (l : List (List Nat)) : Prop := ∃ vs, w.ownsRow base 36 1 v l.length ((List.range l.length).map vs) ∧ ∀ i, i < l.length → TokT w (vs i) (l.getD i [])
theorem OwnToks.row {base : Nat} {w : World} {v : Value} {l : List (List Nat)} (h : OwnToks base w v l) : TokRow w v l := by
 obtain ⟨vs, h1, h2⟩ := h
 exact ⟨vs, Row.of_owns h1, h2⟩
theorem OwnToks.nil (base : Nat) (w : World) : OwnToks base w (.slice none 0 0) [] := ⟨fun _ => undef, World.ownsRow_nil _ _ _ _, fun i hi => absurd hi (by simp)⟩
theorem TokRow.nil (w : World) : TokRow w (.slice none 0 0) [] := (OwnToks.nil 0 w).row
theorem TokRow.below {w w' : World} {v : Value} {l : List (List Nat)} (h : TokRow w v l) (hb : Below w.heap.size w w') : TokRow w' v l := by
 obtain ⟨vs, h1, h2⟩ := h
 exact ⟨vs, h1.below hb, fun i hi => (h2 i hi).keep (KeepT.of_below hb)⟩
theorem owns_below' {w w' : World} {base : Nat} {e : TypeId} {size : Nat} {v : Value} {n : Nat} {xs : List Value} (h : w.ownsRow base e size v n xs) (hb : Below w.heap.size w w') : w'.ownsRow base e size v n xs := by
 obtain ⟨h1, h2 | ⟨g, cap, cur, e', hg, hh, rest⟩⟩ := h
 · exact ⟨h1, .inl h2⟩
 · exact ⟨h1, .inr ⟨g, cap, cur, e', hg, by rw [hb.block g (lt_blk hh)]; exact hh, rest⟩⟩
theorem OwnToks.below {base : Nat} {w w' : World} {v : Value} {l : List (List Nat)} (h : OwnToks base w v l) (hb : Below w.heap.size w w') : OwnToks base w' v l := by
 obtain ⟨vs, h1, h2⟩ := h
 exact ⟨vs, owns_below' h1 hb, fun i hi => (h2 i hi).keep (KeepT.of_below hb)⟩
theorem OwnToks.len {base : Nat} {w : World} {v : Value} {l : List (List Nat)} (h : OwnToks base w v l) : ∃ a c, v = .slice a l.length c := by
 obtain ⟨vs, ⟨_, ⟨rfl, e⟩ | ⟨g, cap, cur, rfl, _⟩⟩, _⟩ := h
 · exact ⟨none, 0, by rw [e]⟩
 · exact ⟨_, cap, rfl⟩
theorem OwnToks.push {base : Nat} {w w' : World} {v v' x : Value} {l : List (List Nat)} {T : List Nat} (_h : OwnToks base w v l) (vs : Nat → Value) (hvs : ∀ i, i < l.length → TokT w (vs i) (l.getD i []))
   (hown : w'.ownsRow base 36 1 v' (l.length + 1) ((List.range l.length).map vs ++ [x])) (hk : KeepT 3 w w') (hx : TokT w x T) : OwnToks base w' v' (l ++ [T]) := by
 refine ⟨fun i => if i = l.length then x else vs i, ?_, fun i hi => ?_⟩
 · have e : (List.range (l ++ [T]).length).map (fun i => if i = l.length then x else vs i) = (List.range l.length).map vs ++ [x] := by
     rw [List.length_append, List.length_singleton, range_map_succ, if_pos rfl]
     congr 1
     apply List.map_congr_left
     intro i hi
     rw [if_neg (by have := List.mem_range.1 hi; omega)]
   rw [e, List.length_append, List.length_singleton]
   exact hown
 · by_cases e : i = l.length
   · subst e
     simp only [if_true]
     rw [List.getD_eq_getElem?_getD]
     simp
     exact hx.keep hk
   · simp only [if_neg e]
     simp at hi
     have e2 : (l ++ [T]).getD i [] = l.getD i [] := by
       rw [List.getD_eq_getElem?_getD, List.getD_eq_getElem?_getD, List.getElem?_append_left (by omega)]
     rw [e2]
     exact (hvs i (by omega)).keep hk
def wholesOf (s : Nat) (T : List Nat) : List (List Nat) := (List.range (T.length / s)).map fun i => T.take ((i + 1) * s)
def addTo (out : List (List Nat)) (b : List Nat) : List (List Nat) := if b ∈ out then out else out ++ [b]
def addAll (out : List (List Nat)) (bs : List (List Nat)) : List (List Nat) := bs.foldl addTo out
def usedOf (s : Nat) (Ts : List (List Nat)) : List (List Nat) := Ts.foldl (fun out T => addAll out (wholesOf s T)) []
theorem addAll_snoc (out bs : List (List Nat)) (b : List Nat) : addAll out (bs ++ [b]) = addTo (addAll out bs) b := by unfold addAll; rw [List.foldl_append]; rfl
theorem usedOf_snoc (s : Nat) (Ts : List (List Nat)) (T : List Nat) : usedOf s (Ts ++ [T]) = addAll (usedOf s Ts) (wholesOf s T) := by unfold usedOf; rw [List.foldl_append]; rfl
theorem wholesOf_len (s : Nat) (T : List Nat) : (wholesOf s T).length = T.length / s := by unfold wholesOf; simp
theorem addTo_len (out : List (List Nat)) (b : List Nat) : (addTo out b).length ≤ out.length + 1 := by unfold addTo; split <;> simp
theorem addAll_len (out bs : List (List Nat)) : (addAll out bs).length ≤ out.length + bs.length := by
 induction bs generalizing out with
 | nil => simp [addAll]
 | cons b bs ih =>
   show (addAll (addTo out b) bs).length ≤ _
   have := ih (addTo out b)
   have := addTo_len out b
   simp; omega
theorem take_snoc' {α : Type} (l : List α) (d : α) (k : Nat) (h : k < l.length) : l.take (k + 1) = l.take k ++ [l.getD k d] := by
 rw [List.take_succ_eq_append_getElem h, List.getD_eq_getElem?_getD]
 simp [h]
theorem usedOf_len (s : Nat) (Ts : List (List Nat)) (m : Nat) (h : ∀ T ∈ Ts, (wholesOf s T).length ≤ m) : (usedOf s Ts).length ≤ Ts.length * m := by
 unfold usedOf
 have go : ∀ (Ts : List (List Nat)) (out : List (List Nat)), (∀ T ∈ Ts, (wholesOf s T).length ≤ m) → (Ts.foldl (fun out T => addAll out (wholesOf s T)) out).length ≤ out.length + Ts.length * m := by
   intro Ts
   induction Ts with
   | nil => intro out _; simp
   | cons T Ts ih =>
     intro out hh
     have h1 := ih (addAll out (wholesOf s T)) (fun U hU => hh U (by simp [hU]))
     have h2 := addAll_len out (wholesOf s T)
     have h3 := hh T (by simp)
     simp only [List.foldl_cons, List.length_cons]
     rw [Nat.add_mul]; omega
 have := go Ts [] h
 simpa using this
end Go.Proofs.YtlmflighkkgikaaGreat
namespace Go.Proofs.YtlmflighkkgikaaGreat
abbrev Key := List Nat × Nat
def pred (s : Nat) (k : Key) : Key := (k.1.take ((k.1.length - 1) / s * s), 0)
def keyOk (s : Nat) (k : Key) : Prop := k.2 = 0 ↔ k.1.length % s = 0
def on (s : Nat) (h k : Key) : Prop := k.1 ≠ [] ∧ (k = h ∨ (k.2 = 0 ∧ k.1.length % s = 0 ∧ k.1 <+: h.1))
instance (s : Nat) (h k : Key) : Decidable (on s h k) := by unfold on; infer_instance
theorem pred_len (s : Nat) (k : Key) (_hs : 1 ≤ s) (h : k.1 ≠ []) : (pred s k).1.length = (k.1.length - 1) / s * s ∧ (pred s k).1.length < k.1.length := by
 have h0 : 0 < k.1.length := List.length_pos_iff.2 h
 have h1 := Nat.div_mul_le_self (k.1.length - 1) s
 have : (pred s k).1.length = (k.1.length - 1) / s * s := by unfold pred; simp; omega
 omega
theorem pred_ok (s : Nat) (k : Key) (hs : 1 ≤ s) : keyOk s (pred s k) := by
 unfold keyOk
 by_cases h : k.1 = []
 · simp [pred, h]
 · rw [(pred_len s k hs h).1]
   simp [pred]
theorem pred_gap (s : Nat) (k : Key) (hs : 1 ≤ s) (h : k.1 ≠ []) : k.1.length ≤ (pred s k).1.length + s ∧ (k.1.length % s = 0 → k.1.length = (pred s k).1.length + s) := by
 have h0 : 0 < k.1.length := List.length_pos_iff.2 h
 rw [(pred_len s k hs h).1]
 have h1 : (k.1.length - 1) / s * s + (k.1.length - 1) % s = k.1.length - 1 := by rw [Nat.mul_comm]; exact Nat.div_add_mod _ _
 have h2 := Nat.mod_lt (k.1.length - 1) (show 0 < s by omega)
 refine ⟨?_, fun hm => ?_⟩
 · generalize (k.1.length - 1) / s * s = a at h1 ⊢
   generalize (k.1.length - 1) % s = b at h1 h2
   omega
 obtain ⟨q, hq⟩ := Nat.dvd_of_mod_eq_zero hm
 have hq0 : 0 < q := by
   cases q with
   | zero => rw [Nat.mul_zero] at hq; omega
   | succ q => omega
 have e : (k.1.length - 1) / s = q - 1 := by
   rw [hq]
   have : s * q - 1 = s * (q - 1) + (s - 1) := by
     have : s * q = s * (q - 1) + s := by rw [← Nat.mul_succ]; congr 1; omega
     omega
   rw [this, Nat.mul_add_div (by omega), Nat.div_eq_of_lt (by omega)]
   rfl
 rw [e, hq, Nat.mul_comm s q]
 have : q * s = (q - 1) * s + s := by rw [← Nat.succ_mul]; congr 1; omega
 exact this
theorem pred_far (s : Nat) (h k : Key) (hs : 1 ≤ s) (hk : k.1.length % s = 0) (hp : k.1 <+: h.1) (hlt : k.1.length < h.1.length) : k.1 <+: (pred s h).1 := by
 have hne : h.1 ≠ [] := fun e => by rw [e] at hlt; simp at hlt
 have hl := (pred_len s h hs hne).1
 have hle : k.1.length ≤ (h.1.length - 1) / s * s := by
   obtain ⟨q, hq⟩ := Nat.dvd_of_mod_eq_zero hk
   rw [hq, Nat.mul_comm]
   refine Nat.mul_le_mul_right _ ?_
   rw [Nat.le_div_iff_mul_le (by omega), Nat.mul_comm]
   omega
 have e1 : k.1 = h.1.take k.1.length := (List.prefix_iff_eq_take.1 hp)
 rw [e1]
 show _ <+: h.1.take _
 refine List.prefix_iff_eq_take.2 ?_
 rw [List.take_take]
 congr 1
 simp
 omega
theorem on_step (s : Nat) (h k : Key) (hs : 1 ≤ s) (hh : keyOk s h) : on s h k ↔ (k = h ∧ h.1 ≠ []) ∨ on s (pred s h) k := by
 unfold on
 constructor
 · rintro ⟨hne, rfl | ⟨h2, hm, hp⟩⟩
   · exact .inl ⟨rfl, hne⟩
   · by_cases hlt : k.1.length < h.1.length
     · exact .inr ⟨hne, .inr ⟨h2, hm, pred_far s h k hs hm hp hlt⟩⟩
     · left
       have e1 : k.1 = h.1 := hp.eq_of_length (by have := hp.length_le; omega)
       refine ⟨Prod.ext e1 ?_, by rw [← e1]; exact hne⟩
       rw [h2]
       exact (hh.2 (by rw [← e1]; exact hm)).symm
 · rintro (⟨rfl, hne⟩ | ⟨hne, rfl | ⟨h2, hm, hp⟩⟩)
   · exact ⟨hne, .inl rfl⟩
   · refine ⟨hne, .inr ⟨rfl, (pred_ok s h hs).1 rfl, List.take_prefix _ _⟩⟩
   · exact ⟨hne, .inr ⟨h2, hm, hp.trans (List.take_prefix _ _)⟩⟩
theorem on_nil (s : Nat) (k : Key) (t : Nat) : ¬ on s ([], t) k := by
 rintro ⟨hne, rfl | ⟨_, _, hp⟩⟩
 · exact hne rfl
 · exact hne (List.prefix_nil.1 hp)
theorem on_self (s : Nat) (h : Key) (hne : h.1 ≠ []) : on s h h := ⟨hne, .inl rfl⟩
theorem not_on_pred (s : Nat) (h : Key) (hs : 1 ≤ s) (hne : h.1 ≠ []) : ¬ on s (pred s h) h := by
 rintro ⟨_, e | ⟨_, _, hp⟩⟩
 · have := (pred_len s h hs hne).2
   rw [← e] at this
   omega
 · have := (pred_len s h hs hne).2
   have := hp.length_le
   omega
theorem on_trans (s : Nat) (h k j : Key) (h1 : on s h k) (h2 : on s k j) : on s h j := by
 obtain ⟨hk, rfl | ⟨k2, km, kp⟩⟩ := h1
 · exact h2
 · obtain ⟨hj, rfl | ⟨j2, jm, jp⟩⟩ := h2
   · exact ⟨hj, .inr ⟨k2, km, kp⟩⟩
   · exact ⟨hj, .inr ⟨j2, jm, jp.trans kp⟩⟩
def chain (s : Nat) (h : Key) : List Key := (List.range ((h.1.length + s - 1) / s)).map fun i => if (i + 1) * s ≤ h.1.length then (h.1.take ((i + 1) * s), 0) else h
theorem mem_chain (s : Nat) (h k : Key) (hs : 1 ≤ s) (hh : keyOk s h) : k ∈ chain s h ↔ on s h k := by
 unfold chain on
 rw [List.mem_map]
 constructor
 · rintro ⟨i, hi, rfl⟩
   rw [List.mem_range, Nat.lt_div_iff_mul_lt (by omega)] at hi
   have hlen : 0 < h.1.length := by omega
   split
   · rename_i hle
     have hl : (h.1.take ((i + 1) * s)).length = (i + 1) * s := by simp; omega
     have hpos : 0 < (i + 1) * s := Nat.mul_pos (by omega) (by omega)
     refine ⟨fun e => ?_, .inr ⟨rfl, by show (h.1.take _).length % s = 0; rw [hl]; simp, List.take_prefix _ _⟩⟩
     have e' : h.1.take ((i + 1) * s) = [] := e
     rw [e'] at hl
     simp only [List.length_nil] at hl
     omega
   · exact ⟨fun e => by rw [e] at hlen; simp at hlen, .inl rfl⟩
 · rintro ⟨hne, rfl | ⟨k2, km, kp⟩⟩
   · have h0 : 0 < k.1.length := List.length_pos_iff.2 hne
     refine ⟨(k.1.length - 1) / s, ?_, ?_⟩
     · rw [List.mem_range, Nat.lt_div_iff_mul_lt (by omega), Nat.mul_comm]
       have := Nat.div_mul_le_self (k.1.length - 1) s
       rw [Nat.mul_comm] at this
       omega
     · obtain ⟨g1, g2⟩ := pred_gap s k hs hne
       have gl := (pred_len s k hs hne).1
       by_cases hm : k.1.length % s = 0
       · have g3 := g2 hm
         have e : ((k.1.length - 1) / s + 1) * s = k.1.length := by rw [Nat.add_mul]; omega
         rw [if_pos (Nat.le_of_eq e), e]
         exact Prod.ext (by simp) (by simp; exact (hh.2 hm).symm)
       · rw [if_neg]
         intro hle
         rw [Nat.add_mul] at hle
         have : k.1.length = ((k.1.length - 1) / s + 1) * s := by rw [Nat.add_mul]; omega
         exact hm (by rw [this]; simp)
   · obtain ⟨q, hq⟩ := Nat.dvd_of_mod_eq_zero km
     have h0 : 0 < k.1.length := List.length_pos_iff.2 hne
     have hq0 : 0 < q := by
       cases q with
       | zero => rw [Nat.mul_zero] at hq; omega
       | succ q => omega
     have hle := kp.length_le
     have e : (q - 1 + 1) * s = k.1.length := by rw [hq, Nat.mul_comm]; congr 1; omega
     refine ⟨q - 1, ?_, ?_⟩
     · rw [List.mem_range, Nat.lt_div_iff_mul_lt (by omega), Nat.mul_comm]
       have : (q - 1) * s + s = k.1.length := by rw [← e, Nat.add_mul]; omega
       rw [Nat.mul_comm] at this
       omega
     · rw [e, if_pos hle]
       exact Prod.ext (List.prefix_iff_eq_take.1 kp).symm k2.symm
theorem chain_nil (s : Nat) (h : Key) (_hs : 1 ≤ s) (e : h.1 = []) : chain s h = [] := by
 unfold chain
 rw [e]
 have : (([] : List Nat).length + s - 1) / s = 0 := Nat.div_eq_of_lt (by simp; omega)
 rw [this]; rfl
theorem chain_step (s : Nat) (h : Key) (hs : 1 ≤ s) (hh : keyOk s h) (hne : h.1 ≠ []) : chain s h = chain s (pred s h) ++ [h] := by
 have h0 : 0 < h.1.length := List.length_pos_iff.2 hne
 obtain ⟨p1, p2⟩ := pred_len s h hs hne
 obtain ⟨g1, g2⟩ := pred_gap s h hs hne
 obtain ⟨m, hm⟩ : ∃ m, m = (h.1.length - 1) / s := ⟨_, rfl⟩
 rw [← hm] at p1
 have e1 : (h.1.length + s - 1) / s = m + 1 := by
   rw [show h.1.length + s - 1 = (h.1.length - 1) + s by omega, Nat.add_div_right _ (by omega), hm]
 have e2 : ((pred s h).1.length + s - 1) / s = m := by
   rw [p1, show m * s + s - 1 = s - 1 + m * s by omega, Nat.add_mul_div_right _ _ (by omega), Nat.div_eq_of_lt (by omega), Nat.zero_add]
 unfold chain
 rw [e1, e2, List.range_succ, List.map_append]
 congr 1
 · apply List.map_congr_left
   intro i hi
   have hi := List.mem_range.1 hi
   have hle : (i + 1) * s ≤ m * s := Nat.mul_le_mul_right _ hi
   rw [if_pos (by omega), if_pos (by omega)]
   refine Prod.ext ?_ rfl
   show h.1.take _ = (h.1.take _).take _
   rw [List.take_take]
   congr 1
   rw [← hm]
   omega
 · simp only [List.map_cons, List.map_nil]
   congr 1
   by_cases hmod : h.1.length % s = 0
   · have g3 := g2 hmod
     have e : (m + 1) * s = h.1.length := by rw [Nat.add_mul]; omega
     rw [if_pos (Nat.le_of_eq e), e]
     exact Prod.ext (by simp) (hh.2 hmod).symm
   · rw [if_neg]
     intro hle
     rw [Nat.add_mul] at hle
     have : h.1.length = (m + 1) * s := by rw [Nat.add_mul]; omega
     exact hmod (by rw [this]; simp)
def dd {α : Type} [DecidableEq α] : List α → List α
 | [] => []
 | a :: l => if a ∈ l then dd l else a :: dd l
theorem mem_dd {α : Type} [DecidableEq α] (l : List α) (x : α) : x ∈ dd l ↔ x ∈ l := by
 induction l with
 | nil => simp [dd]
 | cons a l ih =>
   unfold dd
   split
   · rename_i h
     rw [ih, List.mem_cons]
     exact ⟨.inr, fun h' => h'.elim (fun e => by rw [e]; exact h) id⟩
   · rw [List.mem_cons, List.mem_cons, ih]
theorem nodup_dd {α : Type} [DecidableEq α] (l : List α) : (dd l).Nodup := by
 induction l with
 | nil => simp [dd]
 | cons a l ih =>
   unfold dd
   split
   · exact ih
   · rename_i h
     rw [List.nodup_cons]
     exact ⟨fun h' => h ((mem_dd l a).1 h'), ih⟩
theorem nodup_le {α : Type} [DecidableEq α] {l m : List α} (h : l.Nodup) (hs : ∀ x ∈ l, x ∈ m) : l.length ≤ m.length := by
 induction l generalizing m with
 | nil => simp
 | cons a l ih =>
   rw [List.nodup_cons] at h
   have ha := hs a (by simp)
   have := ih (m := m.erase a) h.2 (fun x hx => (List.mem_erase_of_ne (fun e => h.1 (by rw [← e]; exact hx))).2 (hs x (by simp [hx])))
   rw [List.length_erase_of_mem ha] at this
   have h0 : 0 < m.length := List.length_pos_of_mem ha
   simp
   omega
theorem nodup_eq {α : Type} [DecidableEq α] {l m : List α} (h : l.Nodup) (h' : m.Nodup) (hs : ∀ x, x ∈ l ↔ x ∈ m) : l.length = m.length :=
 Nat.le_antisymm (nodup_le h (fun x hx => (hs x).1 hx)) (nodup_le h' (fun x hx => (hs x).2 hx))
def heldBy (s : Nat) (H : List Key) (k : Key) : Prop := ∃ h ∈ H, on s h k
instance (s : Nat) (H : List Key) (k : Key) : Decidable (heldBy s H k) := by unfold heldBy; infer_instance
def usedK (s : Nat) (H : List Key) : List Key := dd (H.flatMap (chain s))
def nUsed (s : Nat) (H : List Key) : Nat := (usedK s H).length
theorem mem_usedK (s : Nat) (H : List Key) (k : Key) (hs : 1 ≤ s) (hH : ∀ h ∈ H, keyOk s h) : k ∈ usedK s H ↔ heldBy s H k := by
 unfold usedK heldBy
 rw [mem_dd, List.mem_flatMap]
 constructor
 · rintro ⟨h, hh, hk⟩
   exact ⟨h, hh, (mem_chain s h k hs (hH h hh)).1 hk⟩
 · rintro ⟨h, hh, hk⟩
   exact ⟨h, hh, (mem_chain s h k hs (hH h hh)).2 hk⟩
theorem nUsed_eq (s : Nat) (H : List Key) (l : List Key) (hs : 1 ≤ s) (hH : ∀ h ∈ H, keyOk s h) (hl : l.Nodup) (hm : ∀ k, k ∈ l ↔ heldBy s H k) : nUsed s H = l.length :=
 nodup_eq (nodup_dd _) hl (fun k => by rw [hm k]; exact mem_usedK s H k hs hH)
theorem nUsed_congr (s : Nat) (H H' : List Key) (hs : 1 ≤ s) (hH : ∀ h ∈ H, keyOk s h) (hH' : ∀ h ∈ H', keyOk s h) (hm : ∀ k, heldBy s H k ↔ heldBy s H' k) : nUsed s H = nUsed s H' :=
 nUsed_eq s H _ hs hH (nodup_dd _) (fun k => by rw [mem_usedK s H' k hs hH']; exact (hm k).symm)
theorem heldBy_cons (s : Nat) (h : Key) (H : List Key) (k : Key) : heldBy s (h :: H) k ↔ on s h k ∨ heldBy s H k := by
 unfold heldBy
 simp
theorem nUsed_step (s : Nat) (h : Key) (H : List Key) (hs : 1 ≤ s) (hh : keyOk s h) (hH : ∀ h ∈ H, keyOk s h) (hne : h.1 ≠ []) : nUsed s (h :: H) = nUsed s (pred s h :: H) + if heldBy s H h then 0 else 1 := by
 have ok1 : ∀ x ∈ h :: H, keyOk s x := by
   intro x hx
   rcases List.mem_cons.1 hx with rfl | hx
   · exact hh
   · exact hH x hx
 have ok2 : ∀ x ∈ pred s h :: H, keyOk s x := by
   intro x hx
   rcases List.mem_cons.1 hx with rfl | hx
   · exact pred_ok s h hs
   · exact hH x hx
 have key : ∀ k, heldBy s (h :: H) k ↔ k = h ∨ heldBy s (pred s h :: H) k := fun k => by
   rw [heldBy_cons, heldBy_cons, on_step s h k hs hh]
   constructor
   · rintro ((⟨e, _⟩ | e) | e)
     · exact .inl e
     · exact .inr (.inl e)
     · exact .inr (.inr e)
   · rintro (e | e | e)
     · exact .inl (.inl ⟨e, hne⟩)
     · exact .inl (.inr e)
     · exact .inr e
 by_cases hb : heldBy s H h
 · rw [if_pos hb]
   refine nUsed_congr s _ _ hs ok1 ok2 (fun k => ?_)
   rw [key k]
   exact ⟨fun h' => h'.elim (fun e => by rw [e, heldBy_cons]; exact .inr hb) id, .inr⟩
 · rw [if_neg hb]
   have hn : h ∉ usedK s (pred s h :: H) := fun hm => by
     rw [mem_usedK s _ h hs ok2, heldBy_cons] at hm
     exact hm.elim (not_on_pred s h hs hne) hb
   have := nUsed_eq s (h :: H) (h :: usedK s (pred s h :: H)) hs ok1 (List.nodup_cons.2 ⟨hn, nodup_dd _⟩) (fun k => by rw [List.mem_cons, mem_usedK s _ k hs ok2]; exact (key k).symm)
   rw [this]
   rfl
theorem nUsed_nil (s : Nat) (H : List Key) (t : Nat) (hs : 1 ≤ s) (hH : ∀ h ∈ H, keyOk s h) (ht : t = 0) : nUsed s (([], t) :: H) = nUsed s H := by
 refine nUsed_congr s _ _ hs (fun x hx => ?_) hH (fun k => ?_)
 · rcases List.mem_cons.1 hx with rfl | hx
   · simp [keyOk, ht]
   · exact hH x hx
 · rw [heldBy_cons]
   exact ⟨fun h => h.elim (fun e => absurd e (on_nil s k t)) id, .inr⟩
theorem nUsed_perm (s : Nat) (H H' : List Key) (hs : 1 ≤ s) (hH : ∀ h ∈ H, keyOk s h) (hm : ∀ h, h ∈ H ↔ h ∈ H') : nUsed s H = nUsed s H' :=
 nUsed_congr s H H' hs hH (fun h hh => hH h ((hm h).2 hh)) (fun _ => ⟨fun ⟨h, hh, e⟩ => ⟨h, (hm h).1 hh, e⟩, fun ⟨h, hh, e⟩ => ⟨h, (hm h).2 hh, e⟩⟩)
end Go.Proofs.YtlmflighkkgikaaGreat
namespace Go.Proofs.YtlmflighkkgikaaGreat
open Go.RowKit
attribute [local go_sem ↓] Go.wp_at_zero Go.wp_at_succ
def blkV : Option Nat → Value
 | none => .pointer none
 | some B => .pointer (some ⟨B, 0, none⟩)
def nodeV : Option (Nat × Nat) → Option Value
 | none => none
 | some a => some (.pointer (some ⟨a.1, a.2, none⟩))
def kidsOf (N : List Nat → Option (Nat × Nat)) (p : List Nat) (x : Int) : Option Value := if 0 ≤ x then nodeV (N (p ++ [x.toNat])) else none
def kidsN (N : List Nat → Option (Nat × Nat)) (p : List Nat) : Nat := (List.range 1001).countP fun t => (N (p ++ [t])).isSome
theorem kidsN_le (N : List Nat → Option (Nat × Nat)) (p : List Nat) : kidsN N p ≤ 1001 := by
 unfold kidsN
 have := List.countP_le_length (p := fun t => (N (p ++ [t])).isSome) (l := List.range 1001)
 simpa using this
theorem kidsN_congr {N N' : List Nat → Option (Nat × Nat)} {p : List Nat} (h : ∀ t, N (p ++ [t]) = N' (p ++ [t])) : kidsN N p = kidsN N' p := by
 unfold kidsN; congr 1; funext t; rw [h t]
theorem kidsN_more {N N' : List Nat → Option (Nat × Nat)} {p : List Nat} {t : Nat} (ht : t ≤ 1000) (h0 : N (p ++ [t]) = none) (h1 : N' (p ++ [t]) ≠ none) (h : ∀ u, u ≠ t → N' (p ++ [u]) = N (p ++ [u])) : kidsN N' p = kidsN N p + 1 := by
 unfold kidsN
 have go : ∀ n, (List.range n).countP (fun u => (N' (p ++ [u])).isSome) = (List.range n).countP (fun u => (N (p ++ [u])).isSome) + if t < n then 1 else 0 := by
   intro n
   induction n with
   | zero => simp
   | succ n ih =>
     rw [List.range_succ, List.countP_append, List.countP_append, ih]
     by_cases e : n = t
     · subst e
       have q : (N' (p ++ [n])).isSome = true := by
         cases hn : N' (p ++ [n]) with
         | none => exact absurd hn h1
         | some _ => rfl
       simp [h0, q]
     · rw [List.countP_singleton, List.countP_singleton, h n e]
       by_cases e2 : t < n
       · simp only [if_pos e2, if_pos (show t < n + 1 by omega)]; omega
       · simp only [if_neg e2, if_neg (show ¬ t < n + 1 by omega)]; omega
 rw [go 1001, if_pos (by omega)]
theorem kidsN_zero {N : List Nat → Option (Nat × Nat)} {p : List Nat} (h : kidsN N p = 0) (t : Nat) (ht : t ≤ 1000) : N (p ++ [t]) = none := by
 unfold kidsN at h
 rw [List.countP_eq_zero] at h
 have := h t (List.mem_range.2 (by omega))
 cases hn : N (p ++ [t]) with
 | none => rfl
 | some _ => rw [hn] at this; simp at this
structure TreeI (w : World) (F : Nat → Prop) (N : List Nat → Option (Nat × Nat)) (M : List Nat → Option Nat) (V : List Nat → Option Nat) : Prop where
 root : ∃ a, N [] = some a
 node : ∀ p a, N p = some a → ∃ (arr : Array Value) (ty : TypeId), w.heap[a.1]? = some (.cells arr ty (0, 0)) ∧ arr[a.2]? = some (.map (M p)) ∧ arr[a.2 + 1]? = some (blkV (V p)) ∧ arr[a.2 + 2]? = some (.bool (V p).isSome)
 bare : ∀ p, N p ≠ none → M p = none → ∀ t, N (p ++ [t]) = none
 kids : ∀ p b, N p ≠ none → M p = some b → MapV Tryz.prog 3 w b (kidsN N p) (kidsOf N p)
 pre : ∀ p t, N (p ++ [t]) ≠ none → N p ≠ none
 inj : ∀ p q a a', N p = some a → N q = some a' → a.1 = a'.1 → p = q
 minj : ∀ p q b, N p ≠ none → N q ≠ none → M p = some b → M q = some b → p = q
 told : ∀ p, V p ≠ none → N p ≠ none
 foot : ∀ p a, N p = some a → F a.1
 mfoot : ∀ p b, N p ≠ none → M p = some b → F b
 kind : ∀ p a arr ty fr, N p = some a → w.heap[a.1]? = some (.cells arr ty fr) → ty = 74 ∨ ty = 68
 low : ∀ p t, N (p ++ [t]) ≠ none → t ≤ 1000
theorem TreeI.none_on {w : World} {F : Nat → Prop} {N : List Nat → Option (Nat × Nat)} {M : List Nat → Option Nat} {V : List Nat → Option Nat} (h : TreeI w F N M V) (p q : List Nat) (hp : N p = none) : N (p ++ q) = none := by
 induction q generalizing p with
 | nil => simpa using hp
 | cons t q ih =>
   have e : p ++ t :: q = (p ++ [t]) ++ q := by simp
   rw [e]
   refine ih _ ?_
   cases hn : N (p ++ [t]) with
   | none => rfl
   | some a => exact absurd hp (h.pre p t (by rw [hn]; simp))
theorem TreeI.keep {w w' : World} {F : Nat → Prop} {N : List Nat → Option (Nat × Nat)} {M : List Nat → Option Nat} {V : List Nat → Option Nat} (h : TreeI w F N M V) (hk : ∀ k, F k → w'.heap[k]? = w.heap[k]?) : TreeI w' F N M V :=
 ⟨h.root, fun p a hp => by rw [hk _ (h.foot p a hp)]; exact h.node p a hp, h.bare, fun p b hp hm => by
   exact (h.kids p b hp hm).keep (hk _ (h.mfoot p b hp hm)), h.pre, h.inj, h.minj, h.told, h.foot, h.mfoot, fun p a arr ty fr hp ha => by rw [hk _ (h.foot p a hp)] at ha; exact h.kind p a arr ty fr hp ha, h.low⟩
theorem TreeI.keepT {w w' : World} {F : Nat → Prop} {N : List Nat → Option (Nat × Nat)} {M : List Nat → Option Nat} {V : List Nat → Option Nat} (h : TreeI w F N M V) (h1 : ∀ p a, N p = some a → w'.heap[a.1]? = w.heap[a.1]?) (h2 : ∀ p b, N p ≠ none → M p = some b → w'.heap[b]? = w.heap[b]?) : TreeI w' F N M V :=
 ⟨h.root, fun p a hp => by rw [h1 p a hp]; exact h.node p a hp, h.bare, fun p b hp hm => by
   exact (h.kids p b hp hm).keep (h2 p b hp hm), h.pre, h.inj, h.minj, h.told, h.foot, h.mfoot, fun p a arr ty fr hp ha => by rw [h1 p a hp] at ha; exact h.kind p a arr ty fr hp ha, h.low⟩
theorem Tryz.zero_node (w : World) : (zeroValue 157).run Tryz.prog w = .ok (.pointer none) w := by
 have h : (Tryz.prog.info? 157).map (fun i => i.zero) = some (some (.pointer none)) := by kernel_rfl
 cases hi : Tryz.prog.info? 157 with
 | none => rw [hi] at h; cases h
 | some i =>
   rw [hi] at h
   simp at h
   simp [zeroValue, typeInfo, hi, h, go_sem]
theorem int_wf (x : Int) (h1 : -9223372036854775808 ≤ x) (h2 : x ≤ 9223372036854775807) : (Lit.int .i64 x).wf = true := by
 have e1 : IntKind.i64.min = -9223372036854775808 := rfl
 have e2 : IntKind.i64.max = 9223372036854775807 := rfl
 simp [Lit.wf, e1, e2]
 omega
theorem TreeI.look {w : World} {F : Nat → Prop} {N : List Nat → Option (Nat × Nat)} {M : List Nat → Option Nat} {V : List Nat → Option Nat} (h : TreeI w F N M V) (p : List Nat) (hp : N p ≠ none) (t : Nat) (ht : t ≤ 1000) :
   (Instr.lookup 65 (.map (M p)) (.int .i64 t) true).run Tryz.prog w = .ok (.tuple #[(nodeV (N (p ++ [t]))).getD (.pointer none), .bool (N (p ++ [t])).isSome]) w := by
 have hwf : (Lit.int .i64 (t : Int)).wf = true := int_wf t (by omega) (by omega)
 cases hm : M p with
 | none =>
   rw [Maps.look_nil true (Maps.int_keyed Tryz.underlying3) Tryz.underlying65 (Tryz.zero_node w) (Maps.keyOf_int_mk Tryz.underlying3 hwf), h.bare p hp hm t]
   rfl
 | some b =>
   have hv := h.kids p b hp hm
   rw [hv.look Tryz.underlying3 Tryz.underlying65 (Tryz.zero_node w) t hwf]
   unfold kidsOf
   rw [if_pos (by omega), Int.toNat_natCast]
   cases N (p ++ [t]) <;> rfl
theorem snoc_inj {p q : List Nat} {a b : Nat} (h : p ++ [a] = q ++ [b]) : p = q ∧ a = b := by
 have := List.append_inj' h rfl
 simpa using this
def NodeOut (N : List Nat → Option (Nat × Nat)) (w w' : World) : Prop :=
 ∀ p a (arr : Array Value) ty, N p = some a → w.heap[a.1]? = some (.cells arr ty (0, 0)) → ∃ arr' : Array Value, w'.heap[a.1]? = some (.cells arr' ty (0, 0)) ∧ arr'.size = arr.size ∧ ∀ j, (j < a.2 ∨ a.2 + 2 < j) → arr'[j]? = arr[j]?
theorem NodeOut.refl (N : List Nat → Option (Nat × Nat)) (w : World) : NodeOut N w w := fun _ _ arr _ _ h => ⟨arr, h, rfl, fun _ _ => rfl⟩
theorem NodeOut.trans {N N' : List Nat → Option (Nat × Nat)} {w w' w'' : World} (h : NodeOut N w w') (h' : NodeOut N' w' w'') (hm : ∀ q a, N q = some a → N' q = some a) : NodeOut N w w'' := fun p a arr ty hp ha => by
 obtain ⟨arr', q1, q2, q3⟩ := h p a arr ty hp ha
 obtain ⟨arr'', r1, r2, r3⟩ := h' p a arr' ty (hm p a hp) q1
 exact ⟨arr'', r1, by omega, fun j hj => (r3 j hj).trans (q3 j hj)⟩
theorem TreeI.addMap {w : World} {F : Nat → Prop} {N : List Nat → Option (Nat × Nat)} {M : List Nat → Option Nat} {V : List Nat → Option Nat} (h : TreeI w F N M V) (p : List Nat) (b off : Nat) (hp : N p = some (b, off)) (hm : M p = none) :
   TreeI ((w.alloc (.map #[] 0)).setCell ⟨b, off, none⟩ (.map (some w.heap.size))) (fun k => F k ∨ w.heap.size ≤ k) N (fun q => if q = p then some w.heap.size else M q) V ∧ Only F w ((w.alloc (.map #[] 0)).setCell ⟨b, off, none⟩ (.map (some w.heap.size))) ∧ NodeOut N w ((w.alloc (.map #[] 0)).setCell ⟨b, off, none⟩ (.map (some w.heap.size))) := by
 obtain ⟨arr, ty, n0, n1, n2, n3⟩ := h.node p _ hp
 simp only [] at n0 n1 n2 n3
 have hbl := lt_blk n0
 have n0' : (w.alloc (.map #[] 0)).heap[b]? = some (.cells arr ty (0, 0)) := by rw [alloc_old _ _ _ hbl]; exact n0
 have far : ∀ k o, w.heap[k]? = some o → k ≠ b → ((w.alloc (.map #[] 0)).setCell ⟨b, off, none⟩ (.map (some w.heap.size))).heap[k]? = some o := fun k o hk hne => by
   rw [setCell_far _ _ _ _ _ hne, alloc_old _ _ _ (lt_blk hk)]; exact hk
 have mapne : ∀ mb cnt g, MapV Tryz.prog 3 w mb cnt g → mb ≠ b := fun mb cnt g hv e => by
   obtain ⟨es, cl, ho⟩ := hv.obj
   rw [e, n0] at ho; cases ho
 refine ⟨⟨h.root, fun q a hq => ?_, fun q hq hmq t => ?_, fun q mb hq hmq => ?_, h.pre, h.inj, fun q r mb hq hr hmq hmr => ?_, h.told, fun q a hq => .inl (h.foot q a hq), fun q mb hq hmq => ?_, fun q a arr2 ty2 fr2 hq ha => ?_, h.low⟩, ((Only.refl F w).alloc _).setCell (fun _ => h.foot p _ hp) _, fun q a arr2 ty2 hq ha => ?_⟩
 · by_cases e : q = p
   · subst e
     rw [hp] at hq
     injection hq with hq
     subst hq
     refine ⟨arr.setIfInBounds off (.map (some w.heap.size)), ty, setCell_blk n0' _ _, ?_, ?_, ?_⟩
     · have hlt := (Array.getElem?_eq_some_iff.1 n1).1
       simp [hlt]
     · rw [Array.getElem?_setIfInBounds_ne (by simp)]; exact n2
     · rw [Array.getElem?_setIfInBounds_ne (by simp)]; exact n3
   · obtain ⟨arr', ty', m0, m1, m2, m3⟩ := h.node q a hq
     have hne : a.1 ≠ b := fun e' => e (h.inj q p a (b, off) hq hp e')
     exact ⟨arr', ty', far _ _ m0 hne, by simp only [if_neg e]; exact m1, m2, m3⟩
 · by_cases e : q = p
   · simp [e] at hmq
   · simp only [if_neg e] at hmq; exact h.bare q hq hmq t
 · by_cases e : q = p
   · subst e
     simp only [if_true] at hmq
     injection hmq with hmq
     subst hmq
     have hv := (MapV.made Tryz.prog 3 w).keep (w' := (w.alloc (.map #[] 0)).setCell ⟨b, off, none⟩ (.map (some w.heap.size))) (by rw [setCell_far _ _ _ _ _ (by omega)])
     have e2 : kidsOf N q = fun _ => none := by
       funext x
       unfold kidsOf
       by_cases hx : 0 ≤ x
       · rw [if_pos hx, h.bare q hq hm]; rfl
       · rw [if_neg hx]
     have e3 : kidsN N q = 0 := by
       unfold kidsN
       rw [List.countP_eq_zero]
       intro t _
       rw [h.bare q hq hm t]
       simp
     rw [e2, e3]; exact hv
   · simp only [if_neg e] at hmq
     have hv := h.kids q mb hq hmq
     refine hv.keep ?_
     rw [setCell_far _ _ _ _ _ (mapne _ _ _ hv), alloc_old _ _ _ hv.lt]
 · have nof : ∀ q mb, N q ≠ none → M q = some mb → mb < w.heap.size := fun q mb hq hmq => by
     exact (h.kids q mb hq hmq).lt
   by_cases e : q = p
   · by_cases e' : r = p
     · rw [e, e']
     · simp only [if_pos e] at hmq
       simp only [if_neg e'] at hmr
       injection hmq with hmq
       have := nof r mb hr hmr
       omega
   · by_cases e' : r = p
     · simp only [if_neg e] at hmq
       simp only [if_pos e'] at hmr
       injection hmr with hmr
       have := nof q mb hq hmq
       omega
     · simp only [if_neg e] at hmq
       simp only [if_neg e'] at hmr
       exact h.minj q r mb hq hr hmq hmr
 · by_cases e : q = p
   · simp only [if_pos e] at hmq
     injection hmq with hmq
     right; omega
   · simp only [if_neg e] at hmq
     exact .inl (h.mfoot q mb hq hmq)
 · by_cases e : q = p
   · subst e
     rw [hp] at hq
     injection hq with hq
     subst hq
     rw [setCell_blk n0'] at ha
     injection ha with ha
     injection ha with _ ha _
     rw [← ha]; exact h.kind q _ arr ty _ hp n0
   · obtain ⟨arr', ty', m0, _⟩ := h.node q a hq
     rw [far _ _ m0 (fun e' => e (h.inj q p a (b, off) hq hp e'))] at ha
     injection ha with ha
     injection ha with _ ha _
     rw [← ha]; exact h.kind q a arr' ty' _ hq m0
 · by_cases e : q = p
   · subst e
     rw [hp] at hq
     injection hq with hq
     subst hq
     simp only [] at ha
     rw [n0] at ha
     injection ha with ha
     injection ha with ha1 ha2 _
     subst ha1 ha2
     exact ⟨_, setCell_blk n0' _ _, by simp, fun j hj => Array.getElem?_setIfInBounds_ne (by simp at hj; omega)⟩
   · exact ⟨arr2, far _ _ ha (fun e' => e (h.inj q p a (b, off) hq hp e')), rfl, fun _ _ => rfl⟩
theorem TreeI.addNode {w w' : World} {F : Nat → Prop} {N : List Nat → Option (Nat × Nat)} {M : List Nat → Option Nat} {V : List Nat → Option Nat} (h : TreeI w F N M V) (p : List Nat) (t mb : Nat) (hp : N p ≠ none) (hm : M p = some mb) (hn : N (p ++ [t]) = none) (htl : t ≤ 1000)
   (hg : (w.alloc (.cells #[.map none, .pointer none, .bool false] 68)).grownBy w' (some mb))
   (hv : MapV Tryz.prog 3 w' mb (kidsN N p + 1) (fun y => if y = (t : Int) then some (.pointer (some ⟨w.heap.size, 0, none⟩)) else kidsOf N p y)) :
   TreeI w' (fun k => F k ∨ w.heap.size ≤ k) (fun q => if q = p ++ [t] then some (w.heap.size, 0) else N q) (fun q => if q = p ++ [t] then none else M q) V ∧ Only F w w' ∧ NodeOut N w w' := by
 have hne0 : p ≠ p ++ [t] := fun e => by have := congrArg List.length e; simp at this
 have hnone : ∀ u, N (p ++ [t] ++ [u]) = none := fun u => h.none_on _ _ hn
 have hmlt : mb < w.heap.size := by
   exact (h.kids p mb hp hm).lt
 have old : ∀ k o, w.heap[k]? = some o → k ≠ mb → w'.heap[k]? = some o := fun k o hk hne => by
   rw [hg.block k (by simp; have := lt_blk hk; omega) (fun e => hne (by injection e)), alloc_old _ _ _ (lt_blk hk)]; exact hk
 have hnew : w'.heap[w.heap.size]? = some (.cells #[.map none, .pointer none, .bool false] 68 (0, 0)) := by
   rw [hg.block w.heap.size (by simp) (fun e => by injection e with e; omega)]; exact alloc_new _ _
 have cellne : ∀ b arr ty, w.heap[b]? = some (.cells arr ty (0, 0)) → b ≠ mb := fun b arr ty hb e => by
   obtain ⟨es, cl, ho⟩ := (h.kids p mb hp hm).obj
   rw [e, ho] at hb; cases hb
 have hVn : V (p ++ [t]) = none := by
   cases hv : V (p ++ [t]) with
   | none => rfl
   | some B => exact absurd hn (h.told _ (by rw [hv]; simp))
 have lt_node : ∀ q a, N q = some a → a.1 < w.heap.size := fun q a hq => by
   obtain ⟨arr, ty, m0, _⟩ := h.node q a hq
   exact lt_blk m0
 refine ⟨⟨?_, fun q a hq => ?_, fun q hq hmq u => ?_, fun q b hq hmq => ?_, fun q u hq => ?_, fun q r a a' hq hr e => ?_, fun q r b hq hr hmq hmr => ?_, fun q hq => ?_, fun q a hq => ?_, fun q b hq hmq => ?_, fun q a arr2 ty2 fr2 hq ha => ?_, fun q u hq => ?_⟩, ?_, fun q a arr2 ty2 hq ha => ⟨arr2, old _ _ ha (cellne _ _ _ ha), rfl, fun _ _ => rfl⟩⟩
 · obtain ⟨a, ha⟩ := h.root
   exact ⟨a, by rw [if_neg (fun e => by have := congrArg List.length e; simp at this)]; exact ha⟩
 · by_cases e : q = p ++ [t]
   · simp only [if_pos e] at hq ⊢
     injection hq with hq
     subst hq
     rw [e, hVn]
     exact ⟨_, _, hnew, rfl, rfl, rfl⟩
   · simp only [if_neg e] at hq ⊢
     obtain ⟨arr, ty, m0, m1, m2, m3⟩ := h.node q a hq
     exact ⟨arr, ty, old _ _ m0 (cellne _ _ _ m0), m1, m2, m3⟩
 · by_cases e : q = p ++ [t]
   · subst e
     rw [if_neg (fun e => by have := congrArg List.length e; simp at this)]
     exact hnone u
   · simp only [if_neg e] at hq hmq
     have h1 := h.bare q hq hmq u
     rw [if_neg (fun e' => by
       obtain ⟨rfl, rfl⟩ := snoc_inj e'
       rw [hm] at hmq; cases hmq)]
     exact h1
 · by_cases e : q = p ++ [t]
   · simp [e] at hmq
   · simp only [if_neg e] at hq hmq
     by_cases e2 : q = p
     · subst e2
       rw [hm] at hmq
       injection hmq with hmq
       subst hmq
       have e4 : kidsN (fun r => if r = q ++ [t] then some (w.heap.size, 0) else N r) q = kidsN N q + 1 := kidsN_more htl hn (by simp) (fun u hu => if_neg (fun e => hu (snoc_inj e).2))
       rw [e4]
       have e3 : kidsOf (fun r => if r = q ++ [t] then some (w.heap.size, 0) else N r) q = fun y => if y = (t : Int) then some (.pointer (some ⟨w.heap.size, 0, none⟩)) else kidsOf N q y := by
         funext y
         unfold kidsOf
         dsimp only
         by_cases hy : y = (t : Int)
         · subst hy
           rw [if_pos (by omega), if_pos rfl, if_pos (by simp)]; rfl
         · rw [if_neg hy]
           by_cases h0 : 0 ≤ y
           · rw [if_pos h0, if_pos h0, if_neg (fun e => by
               have := (snoc_inj e).2
               omega)]
           · rw [if_neg h0, if_neg h0]
       rw [e3]; exact hv
     · have hv0 := h.kids q b hq hmq
       have hbne : b ≠ mb := fun e' => e2 (h.minj q p b hq hp hmq (by rw [e']; exact hm))
       have e4 : kidsN (fun r => if r = p ++ [t] then some (w.heap.size, 0) else N r) q = kidsN N q := kidsN_congr (fun u => if_neg (fun e => e2 (snoc_inj e).1))
       rw [e4]
       have e3 : kidsOf (fun r => if r = p ++ [t] then some (w.heap.size, 0) else N r) q = kidsOf N q := by
         funext y
         unfold kidsOf
         dsimp only
         rw [if_neg (fun e => e2 (snoc_inj e).1)]
       rw [e3]
       refine hv0.keep ?_
       obtain ⟨es, cl, ho⟩ := hv0.obj
       rw [ho]; exact old _ _ ho hbne
 · by_cases e : q ++ [u] = p ++ [t]
   · obtain ⟨rfl, rfl⟩ := snoc_inj e
     rw [if_neg hne0]; exact hp
   · simp only [if_neg e] at hq
     have := h.pre q u hq
     by_cases e2 : q = p ++ [t]
     · simp [e2]
     · rw [if_neg e2]; exact this
 · by_cases e1 : q = p ++ [t]
   · by_cases e2 : r = p ++ [t]
     · rw [e1, e2]
     · simp only [if_pos e1] at hq
       simp only [if_neg e2] at hr
       injection hq with hq
       have := lt_node r a' hr
       rw [← hq] at e
       simp at e
       omega
   · by_cases e2 : r = p ++ [t]
     · simp only [if_neg e1] at hq
       simp only [if_pos e2] at hr
       injection hr with hr
       have := lt_node q a hq
       rw [← hr] at e
       simp at e
       omega
     · simp only [if_neg e1] at hq
       simp only [if_neg e2] at hr
       exact h.inj q r a a' hq hr e
 · by_cases e1 : q = p ++ [t]
   · simp [e1] at hmq
   · by_cases e2 : r = p ++ [t]
     · simp [e2] at hmr
     · simp only [if_neg e1] at hq hmq
       simp only [if_neg e2] at hr hmr
       exact h.minj q r b hq hr hmq hmr
 · by_cases e : q = p ++ [t]
   · simp [e]
   · rw [if_neg e]; exact h.told q hq
 · by_cases e : q = p ++ [t]
   · simp only [if_pos e] at hq
     injection hq with hq
     subst hq
     exact .inr (Nat.le_refl _)
   · simp only [if_neg e] at hq
     exact .inl (h.foot q a hq)
 · by_cases e : q = p ++ [t]
   · simp [e] at hmq
   · simp only [if_neg e] at hq hmq
     exact .inl (h.mfoot q b hq hmq)
 · by_cases e : q = p ++ [t]
   · simp only [if_pos e] at hq
     injection hq with hq
     subst hq
     rw [hnew] at ha
     injection ha with ha
     injection ha with _ ha _
     exact .inr ha.symm
   · simp only [if_neg e] at hq
     obtain ⟨arr', ty', m0, _⟩ := h.node q a hq
     rw [old _ _ m0 (cellne _ _ _ m0)] at ha
     injection ha with ha
     injection ha with _ ha _
     rw [← ha]; exact h.kind q a arr' ty' _ hq m0
 · by_cases e : q ++ [u] = p ++ [t]
   · rw [(snoc_inj e).2]; exact htl
   · simp only [if_neg e] at hq; exact h.low q u hq
 · exact ((Only.refl F w).alloc _).grown hg (fun g hgg _ => by injection hgg with hgg; subst hgg; exact h.mfoot p _ hp hm)
theorem Tryz.info_ints2 : (Tryz.prog.info? 36).map (fun i => (i.zero, i.size, i.bytes)) = some (some (.slice none 0 0), 1, 24) := by kernel_rfl
def inI (l : List (List Nat)) (b : List Nat) : Int := if b ∈ l then (l.idxOf b : Int) else -1
theorem inI_out {l : List (List Nat)} {b : List Nat} (h : b ∉ l) : inI l b = -1 := by unfold inI; rw [if_neg h]
theorem inI_in {l : List (List Nat)} {b : List Nat} (h : b ∈ l) : 0 ≤ inI l b := by unfold inI; rw [if_pos h]; omega
theorem inI_first {l : List (List Nat)} {b : List Nat} {k : Nat} (hk : k < l.length) (he : l.getD k [] = b) (hf : ∀ j, j < k → l.getD j [] ≠ b) : inI l b = k := by
 have key : ∀ (l : List (List Nat)) (k : Nat), k < l.length → l.getD k [] = b → (∀ j, j < k → l.getD j [] ≠ b) → b ∈ l ∧ l.idxOf b = k := by
   intro l
   induction l with
   | nil => intro k hk; simp at hk
   | cons a l ih =>
     intro k hk he hf
     cases k with
     | zero =>
       have : a = b := by simpa using he
       subst this
       exact ⟨by simp, by simp⟩
     | succ k =>
       have hne : a ≠ b := by have := hf 0 (by omega); simpa using this
       obtain ⟨h1, h2⟩ := ih k (by simpa using hk) (by simpa using he) (fun j hj => by have := hf (j + 1) (by omega); simpa using this)
       exact ⟨List.mem_cons_of_mem _ h1, by rw [List.idxOf_cons]; have hb : (a == b) = false := (by simpa using hne); rw [hb]; simp [h2]⟩
 obtain ⟨h1, h2⟩ := key l k hk he hf
 unfold inI
 rw [if_pos h1, h2]
set_option maxRecDepth 100000 in
set_option maxHeartbeats 1000000 in
theorem refin_at (vl vb : Value) (l : List (List Nat)) (b : List Nat) (w : World) (hl : TokRow w vl l) (hb : TokT w vb b) (hn : l.length ≤ 100000) :
   Calls Tryz.prog 60 #[vl, vb] w fun e w' => e = .returned (.int .i64 (inI l b)) ∧ ∃ q, w' = w.drewN q := by
 obtain ⟨vs, ⟨aa, ca, rfl, ha1, _, ha3⟩, hT⟩ := hl
 have Ha3 := hide ha3
 have HT := hide hT
 clear ha3 hT
 go_enter Tryz.func60, Tryz.ntmps60
 go_wp2
 go_loopw [5] (fun i wr => ∃ k : Nat, k ≤ l.length ∧ i = .int .i64 k ∧ Hid (∀ j, j < k → l.getD j [] ≠ b) ∧ ∃ q, wr = w.drewN q) (fun i _ => l.length - (intOf i).toNat)
 case atStart => exact ⟨0, Nat.zero_le _, rfl, fun j hj => absurd hj (by omega), 0, rfl⟩
 case round =>
   obtain ⟨k, hk, rfl, Hne, q, rfl⟩ := hrel
   by_cases hlt : k < l.length
   · obtain ⟨b1, o1, rfl, hlb1, hc1⟩ := Ha3.out (by omega)
     have c1 : (w.drewN q).cell? ⟨b1, o1 + k, none⟩ = some (vs k) := hc1 k hlt
     have hTk := HT.out k hlt
     clear hc1
     go_wp2_with fail
     refine (refsame_any _ _ _ _ _ _ (w.drewN q) (by exact hTk.ints) (by exact hb.ints)).mono ?_
     rintro e w1 ⟨rfl, q1, rfl⟩
     rw [sameI_tk]
     by_cases hs : l.getD k [] = b
     · have hd : decide (l.getD k [] = b) = true := by simpa using hs
       rw [hd]
       have hm : b ∈ l := by
         rw [← hs, List.getD_eq_getElem?_getD]
         simp [hlt]
       go_wp2
       go_ret
       exact ⟨by rw [inI_first hlt hs Hne.out]; rfl, q + q1, rfl⟩
     · have hd : decide (l.getD k [] = b) = false := by simpa using hs
       rw [hd]
       go_wp2
       go_roundw
       case rel =>
         refine ⟨k + 1, by omega, by go_num, fun j hj => ?_, q + q1, rfl⟩
         by_cases e : j = k
         · subst e; exact hs
         · exact Hne.out j (by omega)
       case measure => simp [intOf]; omega
   · have hm : b ∉ l := by
       intro hm
       obtain ⟨j, hj, e⟩ := List.getElem_of_mem hm
       refine Hne.out j (by omega) ?_
       rw [List.getD_eq_getElem?_getD]; simp [hj, e]
     go_wp2
     go_ret
     exact ⟨by rw [inI_out hm]; rfl, q, rfl⟩
theorem refin_any (vl vb : Value) (l : List (List Nat)) (b : List Nat) (w : World) (hl : TokRow w vl l) (hb : TokT w vb b) (hn : l.length ≤ 100000) :
   Calls Tryz.prog 60 #[vl, vb] w fun e w' => ∃ r : Int, e = .returned (.int .i64 r) ∧ (b ∈ l → 0 ≤ r) ∧ (b ∉ l → r = -1) ∧ ∃ q, w' = w.drewN q :=
 (refin_at vl vb l b w hl hb hn).mono (fun _ _ ⟨he, hq⟩ => ⟨_, he, inI_in, inI_out, hq⟩)
def OwnTk (ok : Nat → Prop) (base : Nat) (w : World) (v : Value) (l : List (List Nat)) : Prop := ∃ vs, w.ownsRow base 36 1 v l.length ((List.range l.length).map vs) ∧ ∀ i, i < l.length → TokT w (vs i) (l.getD i []) ∧ okV ok (vs i)
theorem OwnTk.toks {ok : Nat → Prop} {base : Nat} {w : World} {v : Value} {l : List (List Nat)} (h : OwnTk ok base w v l) : OwnToks base w v l := by
 obtain ⟨vs, h1, h2⟩ := h
 exact ⟨vs, h1, fun i hi => (h2 i hi).1⟩
theorem OwnTk.nil (ok : Nat → Prop) (base : Nat) (w : World) : OwnTk ok base w (.slice none 0 0) [] := ⟨fun _ => undef, World.ownsRow_nil _ _ _ _, fun i hi => absurd hi (by simp)⟩
theorem OwnTk.push {ok : Nat → Prop} {base : Nat} {w w' : World} {v' x : Value} {l : List (List Nat)} {T : List Nat} (vs : Nat → Value) (hvs : ∀ i, i < l.length → TokT w (vs i) (l.getD i []) ∧ okV ok (vs i))
   (hown : w'.ownsRow base 36 1 v' (l.length + 1) ((List.range l.length).map vs ++ [x])) (hk : KeepT 3 w w') (hx : TokT w x T) (hox : okV ok x) : OwnTk ok base w' v' (l ++ [T]) := by
 refine ⟨fun i => if i = l.length then x else vs i, ?_, fun i hi => ?_⟩
 · have e : (List.range (l ++ [T]).length).map (fun i => if i = l.length then x else vs i) = (List.range l.length).map vs ++ [x] := by
     rw [List.length_append, List.length_singleton, range_map_succ, if_pos rfl]
     congr 1
     apply List.map_congr_left
     intro i hi
     rw [if_neg (by have := List.mem_range.1 hi; omega)]
   rw [e, List.length_append, List.length_singleton]; exact hown
 · rw [List.length_append, List.length_singleton] at hi
   by_cases e : i = l.length
   · subst e
     simp only [if_true]
     rw [List.getD_eq_getElem?_getD, List.getElem?_append_right (Nat.le_refl _)]
     simp
     exact ⟨hx.keep hk, hox⟩
   · simp only [if_neg e]
     rw [List.getD_eq_getElem?_getD, List.getElem?_append_left (by omega), ← List.getD_eq_getElem?_getD]
     exact ⟨(hvs i (by omega)).1.keep hk, (hvs i (by omega)).2⟩
set_option maxRecDepth 100000 in
set_option maxHeartbeats 1000000 in
theorem refwholes_tk (ok : Nat → Prop) (Y d s : Nat) (vt : Value) (T : List Nat) (w : World) (hY : w.cell? ⟨Y, 0, none⟩ = some (.pointer (some ⟨d, 0, none⟩))) (hd : w.cell? ⟨d, 1, none⟩ = some (.int .i64 s)) (hYl : Y < w.heap.size) (hdl : d < w.heap.size)
   (ht : TokT w vt T) (hok : okV ok vt) (hs1 : 1 ≤ s) (hs2 : s ≤ 100) (hn : T.length ≤ 1000) :
   Calls Tryz.prog 59 #[.pointer (some ⟨Y, 0, none⟩), vt] w fun e w' => ∃ r, e = .returned r ∧ OwnTk ok w.heap.size w' r (wholesOf s T) ∧ Below w.heap.size w w' := by
 obtain ⟨i1, hi', hz0', hz1', hz2'⟩ := info_parts Tryz.info_ints2
 obtain ⟨aa, ca, rfl, hc1, hc2⟩ := ht.slice
 have HT := hide ht
 have Hok := hide hok
 clear ht hok
 have hlen : T.length / s ≤ T.length := Nat.div_le_self _ _
 go_enter Tryz.func59, Tryz.ntmps59
 go_wp2
 go_loopw [5, 6] (fun o i wr => ∃ k n : Nat, k ≤ T.length / s ∧ Hid (n = (k + 1) * s) ∧ i = .int .i64 n ∧ OwnTk ok w.heap.size wr o ((wholesOf s T).take k) ∧ Below w.heap.size w wr) (fun _ i _ => T.length + s + 1 - (intOf i).toNat)
 case atStart => exact ⟨0, s, Nat.zero_le _, by show s = (0 + 1) * s; simp, rfl, OwnTk.nil _ _ _, Below.refl _ _⟩
 case round =>
   obtain ⟨k, n, hk, Hn, rfl, hown, hbel⟩ := hrel
   have hsz := hbel.size
   have r0 := (hbel.cell (p := ⟨Y, 0, none⟩) hYl).trans hY
   have r1 := (hbel.cell (p := ⟨d, 1, none⟩) hdl).trans hd
   have hkw : ((wholesOf s T).take k).length = k := by rw [List.length_take, wholesOf_len]; omega
   by_cases hlt : k < T.length / s
   · have hnT : n ≤ T.length := by
       rw [Hn.out]
       have h1 : (k + 1) * s ≤ T.length / s * s := Nat.mul_le_mul_right _ hlt
       have h2 := Nat.div_mul_le_self T.length s
       omega
     obtain ⟨vs, hown1, hvs⟩ := id hown
     rw [hkw] at hown1 hvs
     have hx : TokT wr (.slice aa n ca) (T.take n) := (HT.out.keep (KeepT.of_below hbel)).take n hnT
     have Hown := hide hown
     have Hvs := hide hvs
     clear hown hvs
     go_wp2_with (at_builtin; refine wpList_append_lies _ rfl _ _ _ rfl w.heap.size 36 i1 _ 1 24 Tryz.underlying62 hi' hz0' hz1' hz2' rfl (by omega) _ k _ rfl (hown1.alloc _) ⟨wr.heap.size, 0, none⟩ 1 1 [.slice aa n ca] rfl rfl (one_new wr _ _) (by intro u hu; simp at hu; subst hu; rfl) (by omega) (by unfold maxLen; omega) (by omega) (by simp; omega) (wr.heap.size + 1) (by simp) ?_; intro gg cap w1 hown2 hgrow hat hlt2; have hbel' : Below w.heap.size w w1 := (hbel.alloc hsz _).grown hgrow (by simp; omega) (fun g hg => (hown1.lt g hg).1); have y0 := (hbel'.cell (p := ⟨Y, 0, none⟩) hYl).trans hY; have y1 := (hbel'.cell (p := ⟨d, 1, none⟩) hdl).trans hd)
     have hkt : KeepT 3 wr w1 := (KeepT.alloc _ _).trans (KeepT.of_grown (hown1.alloc _) hgrow (by decide))
     have hpush : OwnTk ok w.heap.size w1 (.slice (some ⟨gg, 0, none⟩) (k + 1) cap) ((wholesOf s T).take (k + 1)) := by
       rw [take_snoc' _ [] _ (by rw [wholesOf_len]; exact hlt)]
       have e : (wholesOf s T).getD k [] = T.take n := by
         rw [List.getD_eq_getElem?_getD]; unfold wholesOf; simp [hlt, Hn.out]
       rw [e]
       exact OwnTk.push vs (by rw [hkw]; exact Hvs.out) (by rw [hkw]; exact hown2) hkt hx (fun a n c e => by cases e; exact Hok.out _ _ _ rfl)
     clear hown1 hgrow hown2
     go_roundw
     case rel => exact ⟨k + 1, n + s, by omega, by show n + s = (k + 1 + 1) * s; rw [Hn.out, Nat.add_mul (k + 1) 1 s]; omega, by go_num, hpush, hbel'⟩
     case measure => simp [intOf]; omega
   · have hnT : T.length < n := by
       have hke : k = T.length / s := by omega
       rw [Hn.out, hke]
       have := Nat.div_add_mod T.length s
       have h3 := Nat.mod_lt T.length (show 0 < s by omega)
       rw [Nat.add_mul, Nat.mul_comm (T.length / s) s]; omega
     have hall : (wholesOf s T).take k = wholesOf s T := List.take_of_length_le (by rw [wholesOf_len]; omega)
     rw [hall] at hown
     go_wp2
     go_ret
     exact ⟨_, rfl, hown, hbel⟩
theorem refwholes_any (Y d s : Nat) (vt : Value) (T : List Nat) (w : World) (hY : w.cell? ⟨Y, 0, none⟩ = some (.pointer (some ⟨d, 0, none⟩))) (hd : w.cell? ⟨d, 1, none⟩ = some (.int .i64 s)) (hYl : Y < w.heap.size) (hdl : d < w.heap.size)
   (ht : TokT w vt T) (hs1 : 1 ≤ s) (hs2 : s ≤ 100) (hn : T.length ≤ 1000) :
   Calls Tryz.prog 59 #[.pointer (some ⟨Y, 0, none⟩), vt] w fun e w' => ∃ r, e = .returned r ∧ OwnToks w.heap.size w' r (wholesOf s T) ∧ Below w.heap.size w w' :=
 (refwholes_tk (fun _ => True) Y d s vt T w hY hd hYl hdl ht (fun _ _ _ _ => trivial) hs1 hs2 hn).mono (fun _ _ ⟨r, h1, h2, h3⟩ => ⟨r, h1, h2.toks, h3⟩)
end Go.Proofs.YtlmflighkkgikaaGreat
namespace Go.Proofs.YtlmflighkkgikaaGreat
def badTok (v : Nat) (x : Int) : Prop := x < 0 ∨ (v : Int) ≤ x
def natsOf (n : Nat) (f : Nat → Int) : List Nat := (List.range n).map fun j => (f j).toNat
theorem natsOf_len (n : Nat) (f : Nat → Int) : (natsOf n f).length = n := by simp [natsOf]
theorem natsOf_tk (n : Nat) (f : Nat → Int) (j : Nat) (h : j < n) (h0 : 0 ≤ f j) : tkI (natsOf n f) j = f j := by
 unfold tkI tkN natsOf
 rw [List.getD_eq_getElem?_getD]
 simp [h]
 omega
end Go.Proofs.YtlmflighkkgikaaGreat
namespace Go.Proofs.YtlmflighkkgikaaGreat
open Go.RowKit
theorem root1_any (m n : Int) (b : Nat) (w : World) (hb : w.cell? ⟨b, 0, none⟩ = some (.int .i64 n)) (h0 : 0 ≤ m) (h1 : m ≤ 1700000000) :
   Calls Tryz.prog 121 #[.int .i64 m, .pointer (some ⟨b, 0, none⟩)] w fun e w' => e = .returned (.bool (decide (n < (m + 1) * (m + 1)))) ∧ w' = w := by
 have hs : 0 ≤ (m + 1) * (m + 1) := Int.mul_nonneg (by omega) (by omega)
 have hs2 : (m + 1) * (m + 1) ≤ 1700000001 * 1700000001 := Int.mul_le_mul (by omega) (by omega) (by omega) (by omega)
 go_enter Tryz.func121, Tryz.ntmps121
 go_wp2
 go_ret
 exact ⟨rfl, rfl⟩
set_option maxHeartbeats 400000 in
theorem search_root (n : Int) (b : Nat) (w : World) (hb : w.cell? ⟨b, 0, none⟩ = some (.int .i64 n)) (h0 : 1 ≤ n) (h1 : n ≤ 1700000000) :
   Calls Tryz.prog 120 #[.int .i64 n, .func (.func 121) #[] #[.pointer (some ⟨b, 0, none⟩)]] w fun e w' => e = .returned (.int .i64 (rootI n)) ∧ w' = w := by
 go_enter Tryz.func120, Tryz.ntmps120
 go_wp2
 go_loop [5, 6] (fun a c => ∃ i j : Int, a = .int .i64 i ∧ c = .int .i64 j ∧ 0 ≤ i ∧ i ≤ j ∧ j ≤ n ∧ i * i ≤ n ∧ n < (j + 1) * (j + 1)) (fun a c => (intOf c - intOf a).toNat)
 case atStart => exact ⟨0, n, rfl, rfl, by omega, by omega, by omega, by omega, by have := sq_mono (a := 1) (b := n + 1) (by omega) (by omega); have := Int.mul_le_mul_of_nonneg_left (show (1 : Int) ≤ n + 1 by omega) (show 0 ≤ n + 1 by omega); rw [Int.mul_one] at this; omega⟩
 case round =>
   obtain ⟨i, j, rfl, rfl, hi, hij, hj, hii, hjj⟩ := hrel
   by_cases hlt : i < j
   · go_wp2_with fail
     refine Calls_use (root1_any _ n b _ hb (by omega) (by omega)) ?_
     by_cases hq : n < ((i + j) / 2 + 1) * ((i + j) / 2 + 1)
     · have hq' : decide (n < ((i + j) / 2 + 1) * ((i + j) / 2 + 1)) = true := by simpa using hq
       rw [hq']
       have Hq := hide hq
       clear hq hq'
       go_wp2
       go_round
       case rel => exact ⟨i, (i + j) / 2, rfl, rfl, by omega, by omega, by omega, hii, Hq.out⟩
       case measure => simp [intOf]; omega
     · have hq' : decide (n < ((i + j) / 2 + 1) * ((i + j) / 2 + 1)) = false := by simpa using hq
       rw [hq']
       have Hq := hide (Int.not_lt.1 hq)
       clear hq hq'
       go_wp2
       go_round
       case rel => exact ⟨(i + j) / 2 + 1, j, rfl, rfl, by omega, by omega, by omega, Hq.out, hjj⟩
       case measure => simp [intOf]; omega
   · have e : j = i := by omega
     subst e
     have HR := hide (rootI_eq n j hi hii hjj)
     go_wp2
     go_ret
     exact ⟨ret_int HR.out.symm, rfl⟩
theorem root_any (n : Int) (w : World) (h0 : 1 ≤ n) (h1 : n ≤ 1700000000) :
   Calls Tryz.prog 114 #[.int .i64 n] w fun e w' => e = .returned (.int .i64 (rootI n)) ∧ w' = w.alloc (.cells #[.int .i64 n] 3) := by
 have hmf : ∀ (fn : Fn) (first cap : Array Value) (w : World), (Instr.makeFunc fn first cap).run Tryz.prog w = .ok (.func fn first cap) w := fun _ _ _ _ => rfl
 go_enter Tryz.func114, Tryz.ntmps114
 go_wp2_with fail
 refine Calls_use (search_root n w.heap.size _ (by simp) h0 h1) ?_
 go_wp2
 go_ret
 exact ⟨rfl, rfl⟩
set_option maxHeartbeats 400000 in
theorem dnorm_any (n : Nat) (va : Value) (v : Nat → Int) (w : World) (ha : IntsT w va n v) (hn1 : 1 ≤ n) (hn : n ≤ 100) (bv : ∀ j, -4095 ≤ v j ∧ v j ≤ 4095) :
   Calls Tryz.prog 96 #[va] w fun e w' => ∃ r, e = .returned r ∧ IntsT w' r n (normOf n v) ∧ Below w.heap.size w w' := by
 obtain ⟨aa, ca, rfl, ha1, ha3⟩ := ha.at
 obtain ⟨b1, o1, rfl, hlb1, hc1⟩ := ha3 (by omega)
 have Hc1 := hide hc1
 clear hc1 ha3
 have hmk := run_make_row' (P := Tryz.prog) 36 3 (.int .i64 0) 8 Tryz.underlying36 Tryz.info_int rfl .i64 .i64 n (by omega) (by omega)
 obtain ⟨hs1, hs2⟩ := sq_sum n n v bv (Nat.le_refl _) hn
 have hd1 : 0 ≤ (sumTo (fun j => v j * v j) n) / n := Int.ediv_nonneg hs1 (by omega)
 have hd2 : (sumTo (fun j => v j * v j) n) / n ≤ 1676902500 := Int.le_trans (Int.ediv_le_self _ hs1) hs2
 have hr1 := rootI_pos ((sumTo (fun j => v j * v j) n) / n + 1) (by omega)
 have HR := hide (show ∀ i, cutI ((v i * 256).tdiv (rootI ((sumTo (fun j => v j * v j) n) / n + 1))) = normOf n v i from fun i => by
       unfold normOf; rw [Int.tdiv_eq_ediv_of_nonneg hs1])
 go_enter Tryz.func96, Tryz.ntmps96
 go_wp2_with fail
 refine Calls_use (product_any n n _ _ v v _ ha ha (Nat.le_refl _) hn bv bv) ?_
 go_wp2_with fail
 refine (root_any _ _ (by omega) (by omega)).mono ?_
 rintro e w1 ⟨rfl, rfl⟩
 generalize rootI ((sumTo (fun j => v j * v j) n) / n + 1) = R at hr1 HR ⊢
 clear hs1 hs2
 go_wp2
 clear hmk
 go_loopw [20] (fun i wr => ∃ k : Nat, k ≤ n ∧ i = .int .i64 k ∧ wr.rowIs (w.heap.size + 1) 3 n (fun j => .int .i64 (filled (normOf n v) k j)) ∧ Below w.heap.size w wr) (fun i _ => n - (intOf i).toNat)
 case atStart =>
   refine ⟨0, Nat.zero_le _, rfl, ?_, ((Below.refl _ _).alloc (Nat.le_refl _) _).alloc (by simp) _⟩
   have := fill_start (w.alloc (.cells #[.int .i64 ((sumTo (fun j => v j * v j) n) / n + 1)] 3)) n (normOf n v)
   simpa using this
 case round =>
   obtain ⟨k, hk, rfl, hrow, hbel⟩ := hrel
   by_cases hlt : k < n
   · have c1 := (hbel.cell (p := ⟨b1, o1 + k, none⟩) hlb1).trans (Hc1.out k hlt)
     have c3 := hrow.cell hlt
     have c4 := hrow.frozen k
     obtain ⟨x1, x2⟩ := bv k
     go_wp2_with fail
     refine Calls_use (cut_any _ _) ?_
     rw [HR.out]
     go_wp2
     go_roundw
     case rel => exact ⟨k + 1, by omega, by go_num, fill_step hrow rfl, hbel.setCell (by show w.heap.size ≤ w.heap.size + 1; omega) _⟩
     case measure => simp [intOf]; omega
   · have hkr : n = k := by omega
     subst hkr
     go_wp2
     go_ret
     exact ⟨_, rfl, fill_done hrow (by unfold maxLen; omega), hbel⟩
end Go.Proofs.YtlmflighkkgikaaGreat
namespace Go.Proofs.YtlmflighkkgikaaGreat
structure Pure (s v : Nat) (H : List Key) (il : List (List Nat)) : Prop where
 key : ∀ h ∈ H, keyOk s h ∧ h.1.length ≤ 40 ∧ ∀ t ∈ h.1, t < v
 whole : ∀ p ∈ il, p ≠ [] ∧ p.length % s = 0 ∧ p.length ≤ 40 ∧ ∀ t ∈ p, t < v
 out : ∀ p ∈ il, ¬ heldBy s H (p, 0)
 order : il.Pairwise (fun a b => ¬ a <+: b)
 shut : ∀ p ∈ il, ∀ q, q ≠ [] → q.length % s = 0 → q <+: p → q ∈ il ∨ heldBy s H (q, 0)
def live (s : Nat) (H : List Key) (il : List (List Nat)) (k : Key) : Prop := heldBy s H k ∨ (k.2 = 0 ∧ k.1 ∈ il)
instance (s : Nat) (H : List Key) (il : List (List Nat)) (k : Key) : Decidable (live s H il k) := by unfold live; infer_instance
section
variable {s v : Nat} {H : List Key} {il : List (List Nat)}
theorem Pure.ok (h : Pure s v H il) : ∀ x ∈ H, keyOk s x := fun x hx => (h.key x hx).1
theorem Pure.nodup (h : Pure s v H il) : il.Nodup := h.order.imp (fun {a b} hab e => hab (by rw [e]; exact List.prefix_refl _))
theorem heldBy_ne {k : Key} (h : heldBy s H k) : k.1 ≠ [] := by
 obtain ⟨x, _, hne, _⟩ := h
 exact hne
theorem Pure.live_ne {k : Key} (h : Pure s v H il) (hk : live s H il k) : k.1 ≠ [] := by
 rcases hk with hk | ⟨_, hk⟩
 · exact heldBy_ne hk
 · exact (h.whole _ hk).1
theorem Pure.live_ok {k : Key} (h : Pure s v H il) (hk : live s H il k) : keyOk s k ∧ k.1.length ≤ 40 ∧ ∀ t ∈ k.1, t < v := by
 rcases hk with ⟨x, hx, _, rfl | ⟨h2, hm, hp⟩⟩ | ⟨h2, hk⟩
 · exact h.key _ hx
 · obtain ⟨_, q2, q3⟩ := h.key x hx
   exact ⟨⟨fun _ => hm, fun _ => h2⟩, Nat.le_trans hp.length_le q2, fun t ht => q3 t (hp.subset ht)⟩
 · obtain ⟨_, q1, q2, q3⟩ := h.whole _ hk
   exact ⟨⟨fun _ => q1, fun _ => h2⟩, q2, q3⟩
theorem Pure.live_on {k j : Key} (h : Pure s v H il) (hk : live s H il k) (hj : on s k j) : live s H il j := by
 rcases hk with ⟨x, hx, ho⟩ | ⟨h2, hk⟩
 · exact .inl ⟨x, hx, on_trans s x k j ho hj⟩
 · obtain ⟨hne, rfl | ⟨j2, jm, jp⟩⟩ := hj
   · exact .inr ⟨h2, hk⟩
   · have e : j = (j.1, 0) := Prod.ext rfl j2
     rcases h.shut _ hk j.1 hne jm jp with q | q
     · exact .inr ⟨j2, q⟩
     · left; rw [e]; exact q
theorem Pure.evict {p : List Nat} (h : Pure s v H (p :: il)) : Pure s v H il :=
 ⟨h.key, fun q hq => h.whole q (by simp [hq]), fun q hq => h.out q (by simp [hq]), (List.pairwise_cons.1 h.order).2, fun q hq r h1 h2 h3 => by
   rcases h.shut q (by simp [hq]) r h1 h2 h3 with q1 | q1
   · rcases List.mem_cons.1 q1 with rfl | q1
     · exact absurd h3 ((List.pairwise_cons.1 h.order).1 q hq)
     · exact .inl q1
   · exact .inr q1⟩
def notUp (f : List Nat) (il : List (List Nat)) : List (List Nat) := il.filter (fun p => ¬ p <+: f)
theorem mem_notUp (f : List Nat) (il : List (List Nat)) (p : List Nat) : p ∈ notUp f il ↔ p ∈ il ∧ ¬ p <+: f := by
 unfold notUp; rw [List.mem_filter]; simp
theorem Pure.use {k : Key} (h : Pure s v H il) (hf : k = ([], 0) ∨ live s H il k) : Pure s v (k :: H) (notUp k.1 il) := by
 have hfk : keyOk s k ∧ k.1.length ≤ 40 ∧ ∀ t ∈ k.1, t < v := by
   rcases hf with rfl | hf
   · exact ⟨by simp [keyOk], by simp, by simp⟩
   · exact h.live_ok hf
 refine ⟨fun x hx => ?_, fun p hp => h.whole p ((mem_notUp _ _ _).1 hp).1, fun p hp hh => ?_, h.order.filter _, fun p hp q h1 h2 h3 => ?_⟩
 · rcases List.mem_cons.1 hx with rfl | hx
   · exact hfk
   · exact h.key x hx
 · rw [mem_notUp] at hp
   rcases (heldBy_cons _ _ _ _).1 hh with ⟨hne, e | ⟨_, _, e⟩⟩ | hh
   · exact hp.2 (by rw [← e]; exact List.prefix_refl _)
   · exact hp.2 e
   · exact h.out p hp.1 hh
 · rw [mem_notUp] at hp
   rw [heldBy_cons, mem_notUp]
   by_cases hqf : q <+: k.1
   · exact .inr (.inl ⟨h1, .inr ⟨rfl, h2, hqf⟩⟩)
   · rcases h.shut p hp.1 q h1 h2 h3 with r | r
     · exact .inl ⟨r, hqf⟩
     · exact .inr (.inr r)
theorem Pure.back_held {k : Key} (h : Pure s v (k :: H) il) (hs : 1 ≤ s) (hk : heldBy s H k) : Pure s v (pred s k :: H) il := by
 have kk := h.key k (by simp)
 have key : ∀ j, heldBy s (k :: H) j ↔ heldBy s (pred s k :: H) j := fun j => by
   rw [heldBy_cons, heldBy_cons, on_step s k j hs kk.1]
   constructor
   · rintro ((⟨rfl, _⟩ | e) | e)
     · exact .inr hk
     · exact .inl e
     · exact .inr e
   · rintro (e | e)
     · exact .inl (.inr e)
     · exact .inr e
 refine ⟨fun x hx => ?_, h.whole, fun p hp hh => h.out p hp ((key _).2 hh), h.order, fun p hp q h1 h2 h3 => (h.shut p hp q h1 h2 h3).imp id (key _).1⟩
 rcases List.mem_cons.1 hx with rfl | hx
 · exact ⟨pred_ok s k hs, Nat.le_trans (by unfold pred; simp; omega) kk.2.1, fun t ht => kk.2.2 t (List.mem_of_mem_take ht)⟩
 · exact h.key x (by simp [hx])
theorem Pure.back_idle {p : List Nat} (h : Pure s v ((p, 0) :: H) il) (hs : 1 ≤ s) (hne : p ≠ []) (hk : ¬ heldBy s H (p, 0)) : Pure s v (pred s (p, 0) :: H) (il ++ [p]) := by
 have kk := h.key (p, 0) (by simp)
 have hm : p.length % s = 0 := kk.1.1 rfl
 refine ⟨fun x hx => ?_, fun q hq => ?_, fun q hq hh => ?_, ?_, fun q hq r h1 h2 h3 => ?_⟩
 · rcases List.mem_cons.1 hx with rfl | hx
   · exact ⟨pred_ok s _ hs, Nat.le_trans (by unfold pred; simp; omega) kk.2.1, fun t ht => kk.2.2 t (List.mem_of_mem_take ht)⟩
   · exact h.key x (by simp [hx])
 · rcases List.mem_append.1 hq with hq | hq
   · exact h.whole q hq
   · rw [List.mem_singleton] at hq; subst hq; exact ⟨hne, hm, kk.2⟩
 · rcases List.mem_append.1 hq with hq | hq
   · refine h.out q hq ?_
     rw [heldBy_cons] at hh ⊢
     rw [on_step s _ _ hs kk.1]
     exact hh.elim (fun e => .inl (.inr e)) .inr
   · rw [List.mem_singleton] at hq; subst hq
     rcases (heldBy_cons _ _ _ _).1 hh with hh | hh
     · exact not_on_pred s (q, 0) hs hne hh
     · exact hk hh
 · rw [List.pairwise_append]
   refine ⟨h.order, by simp, fun a ha b hb hp => ?_⟩
   rw [List.mem_singleton] at hb; subst hb
   obtain ⟨a1, a2, _⟩ := h.whole a ha
   exact h.out a ha ((heldBy_cons _ _ _ _).2 (.inl ⟨a1, .inr ⟨rfl, a2, hp⟩⟩))
 · rw [heldBy_cons, List.mem_append, List.mem_singleton]
   rcases List.mem_append.1 hq with hq | hq
   · rcases h.shut q hq r h1 h2 h3 with e | e
     · exact .inl (.inl e)
     · rcases (heldBy_cons _ _ _ _).1 e with e | e
       · rcases (on_step s _ _ hs kk.1).1 e with ⟨e, _⟩ | e
         · injection e with e; exact .inl (.inr e)
         · exact .inr (.inl e)
       · exact .inr (.inr e)
   · rw [List.mem_singleton] at hq; subst hq
     by_cases e : r = q
     · exact .inl (.inr e)
     · have hlt : r.length < q.length := by
         rcases Nat.lt_or_ge r.length q.length with h' | h'
         · exact h'
         · exact absurd (h3.eq_of_length (by have := h3.length_le; omega)) e
       exact .inr (.inl ⟨h1, .inr ⟨rfl, h2, pred_far s (q, 0) (r, 0) hs h2 h3 hlt⟩⟩)
theorem Pure.back_tail {k : Key} (h : Pure s v (k :: H) il) (hs : 1 ≤ s) (ht : k.2 ≠ 0) : Pure s v (pred s k :: H) il := by
 have kk := h.key k (by simp)
 refine ⟨fun x hx => ?_, h.whole, fun p hp hh => h.out p hp ?_, h.order, fun p hp q h1 h2 h3 => (h.shut p hp q h1 h2 h3).imp id (fun e => ?_)⟩
 · rcases List.mem_cons.1 hx with rfl | hx
   · exact ⟨pred_ok s k hs, Nat.le_trans (by unfold pred; simp; omega) kk.2.1, fun t ht => kk.2.2 t (List.mem_of_mem_take ht)⟩
   · exact h.key x (by simp [hx])
 · rw [heldBy_cons] at hh ⊢
   rw [on_step s _ _ hs kk.1]
   exact hh.elim (fun e => .inl (.inr e)) .inr
 · rw [heldBy_cons] at e ⊢
   rw [on_step s _ _ hs kk.1] at e
   rcases e with (⟨e, _⟩ | e) | e
   · rw [← e] at ht; exact absurd rfl ht
   · exact .inl e
   · exact .inr e
theorem Pure.gone (h : Pure s v (([], 0) :: H) il) : Pure s v H il :=
 ⟨fun x hx => h.key x (by simp [hx]), h.whole, fun p hp hh => h.out p hp ((heldBy_cons _ _ _ _).2 (.inr hh)), h.order, fun p hp q h1 h2 h3 => (h.shut p hp q h1 h2 h3).imp id (fun e => ((heldBy_cons _ _ _ _).1 e).elim (fun e => absurd e (on_nil s _ 0)) id)⟩
theorem Pure.fill {k : Key} (h : Pure s v (pred s k :: H) il) (hs : 1 ≤ s) (hk : keyOk s k ∧ k.1.length ≤ 40 ∧ ∀ t ∈ k.1, t < v) (hn : ¬ live s (pred s k :: H) il k) : Pure s v (k :: H) il := by
 refine ⟨fun x hx => ?_, h.whole, fun p hp hh => ?_, h.order, fun p hp q h1 h2 h3 => (h.shut p hp q h1 h2 h3).imp id (fun e => ?_)⟩
 · rcases List.mem_cons.1 hx with rfl | hx
   · exact hk
   · exact h.key x (by simp [hx])
 · rw [heldBy_cons, on_step s _ _ hs hk.1] at hh
   rcases hh with (⟨e, _⟩ | e) | e
   · exact hn (.inr ⟨by rw [← e], by rw [← e]; exact hp⟩)
   · exact h.out p hp ((heldBy_cons _ _ _ _).2 (.inl e))
   · exact h.out p hp ((heldBy_cons _ _ _ _).2 (.inr e))
 · rw [heldBy_cons] at e ⊢
   rw [on_step s _ _ hs hk.1]
   exact e.elim (fun e => .inl (.inr e)) .inr
theorem Pure.perm {H' : List Key} (h : Pure s v H il) (hm : ∀ x, x ∈ H ↔ x ∈ H') : Pure s v H' il := by
 have key : ∀ k, heldBy s H k ↔ heldBy s H' k := fun k => ⟨fun ⟨x, hx, e⟩ => ⟨x, (hm x).1 hx, e⟩, fun ⟨x, hx, e⟩ => ⟨x, (hm x).2 hx, e⟩⟩
 exact ⟨fun x hx => h.key x ((hm x).2 hx), h.whole, fun p hp hh => h.out p hp ((key _).2 hh), h.order, fun p hp q h1 h2 h3 => (h.shut p hp q h1 h2 h3).imp id (key _).1⟩
theorem live_use {k : Key} (h : Pure s v H il) (hf : k = ([], 0) ∨ live s H il k) (j : Key) : live s (k :: H) (notUp k.1 il) j ↔ live s H il j := by
 unfold live
 rw [heldBy_cons, mem_notUp]
 constructor
 · rintro ((h1 | h1) | ⟨h1, h2, _⟩)
   · rcases hf with rfl | hf
     · exact absurd h1 (on_nil s j 0)
     · exact h.live_on hf h1
   · exact .inl h1
   · exact .inr ⟨h1, h2⟩
 · rintro (h1 | ⟨h1, h2⟩)
   · exact .inl (.inr h1)
   · by_cases hp : j.1 <+: k.1
     · obtain ⟨q1, q2, _⟩ := h.whole _ h2
       exact .inl (.inl ⟨q1, .inr ⟨h1, q2, hp⟩⟩)
     · exact .inr ⟨h1, h2, hp⟩
theorem filter_split {α : Type} (p : α → Bool) (l : List α) : (l.filter p).length + (l.filter (fun x => !p x)).length = l.length := by
 induction l with
 | nil => rfl
 | cons a l ih =>
   simp only [List.filter_cons]
   cases p a <;> simp <;> omega
theorem nUsed_use {k : Key} (hs : 1 ≤ s) (h : Pure s v H il) (hf : k = ([], 0) ∨ live s H il k) : nUsed s (k :: H) + (notUp k.1 il).length = nUsed s H + il.length := by
 have h' := h.use hf
 have e1 : nUsed s (k :: H) = (usedK s H ++ (il.filter (fun p => decide (p <+: k.1))).map (fun p => (p, 0))).length := by
   refine nUsed_eq s _ _ hs h'.ok ?_ (fun j => ?_)
   · rw [List.nodup_append]
     refine ⟨nodup_dd _, ?_, fun a ha b hb e => ?_⟩
     · have : (il.filter (fun p => decide (p <+: k.1))).Nodup := h.nodup.filter _
       exact (List.pairwise_map.2 (this.imp (fun hab e => hab (by injection e))))
     · subst e
       obtain ⟨p, hp, rfl⟩ := List.mem_map.1 hb
       rw [mem_usedK s H _ hs h.ok] at ha
       exact h.out p (List.mem_filter.1 hp).1 ha
   · rw [List.mem_append, mem_usedK s H _ hs h.ok, List.mem_map, heldBy_cons]
     constructor
     · rintro (h1 | ⟨p, hp, rfl⟩)
       · exact .inr h1
       · obtain ⟨hp1, hp2⟩ := List.mem_filter.1 hp
         obtain ⟨q1, q2, _⟩ := h.whole _ hp1
         exact .inl ⟨q1, .inr ⟨rfl, q2, by simpa using hp2⟩⟩
     · rintro (h1 | h1)
       · have hl : live s H il j := by
           rcases hf with rfl | hf
           · exact absurd h1 (on_nil s j 0)
           · exact h.live_on hf h1
         rcases hl with hl | ⟨hl1, hl2⟩
         · exact .inl hl
         · refine .inr ⟨j.1, List.mem_filter.2 ⟨hl2, ?_⟩, Prod.ext rfl hl1.symm⟩
           obtain ⟨_, e | ⟨_, _, e⟩⟩ := h1
           · rw [e]; simp
           · simpa using e
       · exact .inl h1
 rw [e1, List.length_append, List.length_map]
 have e2 := filter_split (fun p : List Nat => decide (p <+: k.1)) il
 have e3 : (notUp k.1 il).length = (il.filter (fun x => !decide (x <+: k.1))).length := by
   unfold notUp
   congr 1
   apply List.filter_congr
   intro x _
   by_cases e : x <+: k.1 <;> simp [e]
 unfold nUsed
 omega
def users (s : Nat) (H : List Key) (k : Key) : Nat := H.countP (fun h => decide (on s h k))
theorem users_cons (s : Nat) (h : Key) (H : List Key) (k : Key) : users s (h :: H) k = users s H k + if on s h k then 1 else 0 := by
 unfold users; rw [List.countP_cons]; simp
theorem users_pos (s : Nat) (H : List Key) (k : Key) : 0 < users s H k ↔ heldBy s H k := by
 unfold users heldBy; rw [List.countP_pos_iff]; simp
theorem users_zero (s : Nat) (H : List Key) (k : Key) : users s H k = 0 ↔ ¬ heldBy s H k := by
 rw [← users_pos]; omega
theorem users_le (s : Nat) (H : List Key) (k : Key) : users s H k ≤ H.length := by unfold users; exact List.countP_le_length
theorem users_perm (s : Nat) {H H' : List Key} (hp : H.Perm H') (k : Key) : users s H k = users s H' k := by unfold users; exact hp.countP_eq _
theorem users_step (s : Nat) (h : Key) (H : List Key) (k : Key) (hs : 1 ≤ s) (hh : keyOk s h) (hne : h.1 ≠ []) : users s (h :: H) k = users s (pred s h :: H) k + if k = h then 1 else 0 := by
 rw [users_cons, users_cons]
 by_cases e : k = h
 · subst e
   rw [if_pos (on_self s k hne), if_neg (not_on_pred s k hs hne), if_pos rfl]
 · have : on s h k ↔ on s (pred s h) k := by
     rw [on_step s h k hs hh]
     exact ⟨fun h' => h'.elim (fun h'' => absurd h''.1 e) id, .inr⟩
   rw [if_neg e]
   simp only [this, Nat.add_zero]
def leftOf (s : Nat) (H : List Key) (k : Key) : List (List Nat) := (chain s k).reverse.filterMap fun x => if x.2 = 0 ∧ ¬ heldBy s H x then some x.1 else none
theorem leftOf_nil (s : Nat) (H : List Key) (k : Key) (hs : 1 ≤ s) (e : k.1 = []) : leftOf s H k = [] := by unfold leftOf; rw [chain_nil s k hs e]; rfl
theorem leftOf_step (s : Nat) (H : List Key) (k : Key) (hs : 1 ≤ s) (hk : keyOk s k) (hne : k.1 ≠ []) : leftOf s H k = (if k.2 = 0 ∧ ¬ heldBy s H k then [k.1] else []) ++ leftOf s H (pred s k) := by
 unfold leftOf
 rw [chain_step s k hs hk hne, List.reverse_append, List.filterMap_append]
 congr 1
 simp only [List.reverse_cons, List.reverse_nil, List.nil_append, List.filterMap_cons, List.filterMap_nil]
 split <;> simp_all
theorem live_back_held {j : Key} (hs : 1 ≤ s) (hj : keyOk s j) (hh : heldBy s H j) (k : Key) : live s (pred s j :: H) il k ↔ live s (j :: H) il k := by
 unfold live
 rw [heldBy_cons, heldBy_cons, on_step s j k hs hj]
 constructor
 · rintro ((h1 | h1) | h1)
   · exact .inl (.inl (.inr h1))
   · exact .inl (.inr h1)
   · exact .inr h1
 · rintro (((⟨rfl, _⟩ | h1) | h1) | h1)
   · exact .inl (.inr hh)
   · exact .inl (.inl h1)
   · exact .inl (.inr h1)
   · exact .inr h1
theorem live_back_idle {p : List Nat} (hs : 1 ≤ s) (hj : keyOk s (p, 0)) (hne : p ≠ []) (k : Key) : live s (pred s (p, 0) :: H) (il ++ [p]) k ↔ live s ((p, 0) :: H) il k := by
 unfold live
 rw [heldBy_cons, heldBy_cons, on_step s _ k hs hj, List.mem_append, List.mem_singleton]
 constructor
 · rintro ((h1 | h1) | ⟨h1, h2 | h2⟩)
   · exact .inl (.inl (.inr h1))
   · exact .inl (.inr h1)
   · exact .inr ⟨h1, h2⟩
   · exact .inl (.inl (.inl ⟨Prod.ext h2 h1, hne⟩))
 · rintro (((⟨rfl, _⟩ | h1) | h1) | ⟨h1, h2⟩)
   · exact .inr ⟨rfl, .inr rfl⟩
   · exact .inl (.inl h1)
   · exact .inl (.inr h1)
   · exact .inr ⟨h1, .inl h2⟩
theorem live_back_tail {j : Key} (hs : 1 ≤ s) (hj : keyOk s j) (hne : j.1 ≠ []) (ht : j.2 ≠ 0) (hh : ¬ heldBy s H j) (k : Key) : live s (pred s j :: H) il k ↔ live s (j :: H) il k ∧ k ≠ j := by
 unfold live
 rw [heldBy_cons, heldBy_cons, on_step s j k hs hj]
 constructor
 · rintro ((h1 | h1) | h1)
   · exact ⟨.inl (.inl (.inr h1)), fun e => not_on_pred s j hs hne (by rw [← e]; rw [e] at h1; rw [e]; exact h1)⟩
   · exact ⟨.inl (.inr h1), fun e => hh (by rw [← e]; exact h1)⟩
   · exact ⟨.inr h1, fun e => ht (by rw [← e]; exact h1.1)⟩
 · rintro ⟨((⟨rfl, _⟩ | h1) | h1) | h1, h2⟩
   · exact absurd rfl h2
   · exact .inl (.inl h1)
   · exact .inl (.inr h1)
   · exact .inr h1
theorem live_gone (k : Key) : live s (([], 0) :: H) il k ↔ live s H il k := by
 unfold live
 rw [heldBy_cons]
 exact ⟨fun h => h.elim (fun h => h.elim (fun e => absurd e (on_nil s k 0)) .inl) .inr, fun h => h.elim (fun h => .inl (.inr h)) .inr⟩
end
end Go.Proofs.YtlmflighkkgikaaGreat
