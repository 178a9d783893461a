import Derived.Shelf.SlMaps.Clone
import Derived.Test.YtlmflighkkgikaaGreatP06
import Derived.Test.YtlmflighkkgikaaGreatP07
import Derived.Test.YtlmflighkkgikaaGreatP11
import Derived.Test.YtlmflighkkgikaaGreatP12
import Derived.Test.YtlmflighkkgikaaGreatP14
import Derived.Test.YtlmflighkkgikaaGreatP28
import Derived.Test.YtlmflighkkgikaaGreatP29

namespace Go.Proofs.YtlmflighkkgikaaGreat
theorem mem_wholesOf (s : Nat) (hs : 1 ≤ s) (T p : List Nat) : p ∈ wholesOf s T ↔ p ≠ [] ∧ p.length % s = 0 ∧ p <+: T := by
 unfold wholesOf
 rw [List.mem_map]
 constructor
 · rintro ⟨i, hi, rfl⟩
   rw [List.mem_range, Nat.lt_div_iff_mul_lt (by omega)] at hi
   have h1 : (i + 1) * s = i * s + s := by rw [Nat.add_mul]; omega
   have h2 : s * i = i * s := Nat.mul_comm _ _
   have hl : (T.take ((i + 1) * s)).length = (i + 1) * s := by
     rw [List.length_take, h1]
     omega
   refine ⟨fun e => ?_, by rw [hl]; simp, List.take_prefix _ _⟩
   rw [e] at hl
   simp only [List.length_nil] at hl
   omega
 · rintro ⟨hne, hm, hp⟩
   obtain ⟨q, hq⟩ := Nat.dvd_of_mod_eq_zero hm
   have h0 : 0 < p.length := List.length_pos_iff.2 hne
   have hq0 : 0 < q := by
     cases q with
     | zero => rw [Nat.mul_zero] at hq; omega
     | succ q => omega
   have hle := hp.length_le
   have e : (q - 1 + 1) * s = p.length := by rw [hq, Nat.mul_comm]; congr 1; omega
   refine ⟨q - 1, ?_, ?_⟩
   · rw [List.mem_range, Nat.lt_div_iff_mul_lt (by omega)]
     have : (q - 1) * s + s = p.length := by rw [← e, Nat.add_mul]; omega
     rw [Nat.mul_comm] at this
     have h2 : s * (q - 1) = (q - 1) * s := Nat.mul_comm _ _
     omega
   · rw [e]; exact (List.prefix_iff_eq_take.1 hp).symm
theorem mem_addAll (out bs : List (List Nat)) (p : List Nat) : p ∈ addAll out bs ↔ p ∈ out ∨ p ∈ bs := by
 unfold addAll
 induction bs generalizing out with
 | nil => simp
 | cons b bs ih =>
   rw [List.foldl_cons, ih]
   unfold addTo
   split
   · rename_i h
     rw [List.mem_cons]
     constructor
     · rintro (h' | h')
       · exact .inl h'
       · exact .inr (.inr h')
     · rintro (h' | rfl | h')
       · exact .inl h'
       · exact .inl h
       · exact .inr h'
   · simp [or_assoc]
theorem nodup_addAll (out bs : List (List Nat)) (h : out.Nodup) : (addAll out bs).Nodup := by
 unfold addAll
 induction bs generalizing out with
 | nil => exact h
 | cons b bs ih =>
   rw [List.foldl_cons]
   refine ih _ ?_
   unfold addTo
   split
   · exact h
   · rename_i hb
     rw [List.nodup_append]
     exact ⟨h, by simp, fun a ha b' hb' e => by simp at hb'; subst hb'; subst e; exact hb ha⟩
theorem mem_usedOf (s : Nat) (Ts : List (List Nat)) (p : List Nat) : p ∈ usedOf s Ts ↔ ∃ T ∈ Ts, p ∈ wholesOf s T := by
 have h : ∀ (Ts : List (List Nat)) (out : List (List Nat)), p ∈ Ts.foldl (fun out T => addAll out (wholesOf s T)) out ↔ p ∈ out ∨ ∃ T ∈ Ts, p ∈ wholesOf s T := by
   intro Ts
   induction Ts with
   | nil => simp
   | cons T Ts ih =>
     intro out
     rw [List.foldl_cons, ih, mem_addAll]
     simp [or_assoc]
 unfold usedOf
 rw [h]
 simp
theorem nodup_usedOf (s : Nat) (Ts : List (List Nat)) : (usedOf s Ts).Nodup := by
 have h : ∀ (Ts : List (List Nat)) (out : List (List Nat)), out.Nodup → (Ts.foldl (fun out T => addAll out (wholesOf s T)) out).Nodup := by
   intro Ts
   induction Ts with
   | nil => exact fun out h => h
   | cons T Ts ih => exact fun out h => by rw [List.foldl_cons]; exact ih _ (nodup_addAll _ _ h)
 exact h Ts [] (by simp)
theorem held_whole (s : Nat) (hs : 1 ≤ s) (L : List (Int × Key)) (hk : ∀ x ∈ L, keyOk s x.2) (p : List Nat) : heldBy s (L.map (·.2)) (p, 0) ↔ p ∈ usedOf s (toksOf L) := by
 rw [mem_usedOf]
 unfold heldBy on toksOf
 constructor
 · rintro ⟨h, hh, hne, e | ⟨_, hm, hp⟩⟩
   · obtain ⟨x, hx, rfl⟩ := List.mem_map.1 hh
     refine ⟨x.2.1, List.mem_map.2 ⟨x, hx, rfl⟩, (mem_wholesOf s hs _ _).2 ⟨hne, ?_, ?_⟩⟩
     · have := (hk x hx).1 (by rw [← e])
       rw [← e] at this
       exact this
     · rw [← e]; exact List.prefix_refl _
   · obtain ⟨x, hx, rfl⟩ := List.mem_map.1 hh
     exact ⟨x.2.1, List.mem_map.2 ⟨x, hx, rfl⟩, (mem_wholesOf s hs _ _).2 ⟨hne, hm, hp⟩⟩
 · rintro ⟨T, hT, hp⟩
   obtain ⟨x, hx, rfl⟩ := List.mem_map.1 hT
   obtain ⟨h1, h2, h3⟩ := (mem_wholesOf s hs _ _).1 hp
   exact ⟨x.2, List.mem_map.2 ⟨x, hx, rfl⟩, h1, .inr ⟨rfl, h2, h3⟩⟩
def tailKeys (L : List (Int × Key)) (n : Nat) : List Key := ((List.range n).filter (firstT L)).map fun i => (toksAt L i, tailAt L i)
theorem tailKeys_len (L : List (Int × Key)) (n : Nat) : (tailKeys L n).length = manyT L n := by
 unfold tailKeys
 rw [List.length_map]
 induction n with
 | zero => rfl
 | succ n ih =>
   rw [List.range_succ, List.filter_append, List.length_append, ih]
   cases hf : firstT L n
   · rw [manyT_no L n hf]; simp [hf]
   · rw [manyT_yes L n hf]; simp [hf]
theorem firstT_iff (L : List (Int × Key)) (i : Nat) : firstT L i = true ↔ 0 < tailAt L i ∧ ∀ j, j < i → tailAt L j ≠ tailAt L i := by
 unfold firstT
 simp
theorem tailKeys_nodup (L : List (Int × Key)) (n : Nat) : (tailKeys L n).Nodup := by
 induction n with
 | zero => simp [tailKeys]
 | succ n ih =>
   have e : tailKeys L (n + 1) = tailKeys L n ++ (if firstT L n then [(toksAt L n, tailAt L n)] else []) := by
     unfold tailKeys
     rw [List.range_succ, List.filter_append, List.map_append]
     congr 1
     cases hf : firstT L n <;> simp [hf]
   rw [e]
   cases hf : firstT L n
   · simpa using ih
   · rw [if_pos rfl, List.nodup_append]
     refine ⟨ih, by simp, fun a ha b hb e' => ?_⟩
     simp at hb
     subst hb
     subst e'
     unfold tailKeys at ha
     obtain ⟨j, hj, ej⟩ := List.mem_map.1 ha
     have hj' := List.mem_range.1 (List.mem_filter.1 hj).1
     injection ej with _ ej
     exact ((firstT_iff L n).1 hf).2 j hj' ej
theorem mem_tailKeys (s : Nat) (L : List (Int × Key)) (nt : Nat) (hT : TailsOk s L nt) (k : Key) (hk : k.2 ≠ 0) : k ∈ tailKeys L L.length ↔ ∃ x ∈ L, x.2 = k := by
 unfold tailKeys
 rw [List.mem_map]
 constructor
 · rintro ⟨i, hi, rfl⟩
   have hi' := List.mem_range.1 (List.mem_filter.1 hi).1
   exact ⟨_, at_mem hi', rfl⟩
 · rintro ⟨x, hx, rfl⟩
   obtain ⟨i, hi, e⟩ := List.getElem_of_mem hx
   have et : tailAt L i = x.2.2 := by unfold tailAt; rw [List.getD_eq_getElem?_getD, List.getElem?_eq_getElem hi, e]; rfl
   have h : ∀ n, n ≤ L.length → (∃ j, j < n ∧ tailAt L j = x.2.2) → ∃ j, j < n ∧ tailAt L j = x.2.2 ∧ firstT L j = true := fun n => by
     induction n with
     | zero => rintro _ ⟨j, hj, _⟩; omega
     | succ n ih =>
       rintro hn ⟨j, hj, ej⟩
       by_cases hex : ∃ j, j < n ∧ tailAt L j = x.2.2
       · obtain ⟨j, h1, h2, h3⟩ := ih (by omega) hex
         exact ⟨j, by omega, h2, h3⟩
       · have hjn : j = n := by
           by_cases h : j < n
           · exact absurd ⟨j, h, ej⟩ hex
           · omega
         subst hjn
         exact ⟨j, hj, ej, (firstT_iff L j).2 ⟨by rw [ej]; omega, fun i hi e => hex ⟨i, hi, by rw [e, ej]⟩⟩⟩
   obtain ⟨j, hj, ej, hf⟩ := h L.length (Nat.le_refl _) ⟨i, hi, et⟩
   exact ⟨j, List.mem_filter.2 ⟨List.mem_range.2 hj, hf⟩, hT.same _ (at_mem hj) x hx ej (by show tailAt L j ≠ 0; omega)⟩
theorem nUsed_ref (s : Nat) (hs : 1 ≤ s) (L : List (Int × Key)) (nt : Nat) (hT : TailsOk s L nt) (hne : ∀ x ∈ L, x.2.1 ≠ []) : nUsed s (L.map (·.2)) = (usedOf s (toksOf L)).length + manyT L L.length := by
 have hH : ∀ h ∈ L.map (·.2), keyOk s h := fun h hh => by
   obtain ⟨x, hx, rfl⟩ := List.mem_map.1 hh
   exact hT.key x hx
 have := nUsed_eq s (L.map (·.2)) ((usedOf s (toksOf L)).map (fun p => (p, 0)) ++ tailKeys L L.length) hs hH ?_ ?_
 · rw [this, List.length_append, List.length_map, tailKeys_len]
 · rw [List.nodup_append]
   refine ⟨?_, tailKeys_nodup L _, fun a ha b hb e => ?_⟩
   · have hn := nodup_usedOf s (toksOf L)
     generalize usedOf s (toksOf L) = U at hn
     induction U with
     | nil => simp
     | cons a U ih =>
       rw [List.nodup_cons] at hn
       rw [List.map_cons, List.nodup_cons]
       refine ⟨fun h => ?_, ih hn.2⟩
       obtain ⟨q, hq, e⟩ := List.mem_map.1 h
       injection e with e _
       exact hn.1 (by rw [← e]; exact hq)
   · obtain ⟨p, _, rfl⟩ := List.mem_map.1 ha
     subst e
     unfold tailKeys at hb
     obtain ⟨i, hi, ei⟩ := List.mem_map.1 hb
     have := ((firstT_iff L i).1 (List.mem_filter.1 hi).2).1
     injection ei with _ ei
     omega
 · intro k
   rw [List.mem_append]
   by_cases hk : k.2 = 0
   · obtain ⟨p, t⟩ := k
     have ht : t = 0 := hk
     subst ht
     rw [held_whole s hs L hT.key]
     constructor
     · rintro (h | h)
       · obtain ⟨q, hq, e⟩ := List.mem_map.1 h
         injection e with e _
         rw [← e]; exact hq
       · unfold tailKeys at h
         obtain ⟨i, hi, ei⟩ := List.mem_map.1 h
         have := ((firstT_iff L i).1 (List.mem_filter.1 hi).2).1
         injection ei with _ ei
         omega
     · exact fun h => .inl (List.mem_map.2 ⟨p, h, rfl⟩)
   · rw [mem_tailKeys s L nt hT k hk]
     unfold heldBy on
     constructor
     · rintro (h | ⟨x, hx, rfl⟩)
       · obtain ⟨q, hq, e⟩ := List.mem_map.1 h
         exact absurd (by rw [← e]) hk
       · exact ⟨x.2, List.mem_map.2 ⟨x, hx, rfl⟩, hne x hx, .inl rfl⟩
     · rintro ⟨h, hh, _, e | ⟨e, _⟩⟩
       · obtain ⟨x, hx, rfl⟩ := List.mem_map.1 hh
         exact .inr ⟨x, hx, e.symm⟩
       · exact absurd e hk
end Go.Proofs.YtlmflighkkgikaaGreat
namespace Go.Proofs.YtlmflighkkgikaaGreat
open Go.RowKit
attribute [local go_sem ↓] Go.wp_at_zero Go.wp_at_succ
def assoc (L : List (Int × Key)) (id : Int) : Option Key := (L.find? (fun x => decide (x.1 = id))).map (·.2)
theorem assoc_nil (id : Int) : assoc [] id = none := rfl
theorem assoc_cons (x : Int × Key) (L : List (Int × Key)) (id : Int) : assoc (x :: L) id = if x.1 = id then some x.2 else assoc L id := by
 unfold assoc
 by_cases e : x.1 = id
 · simp [e]
 · simp [e]
theorem assoc_append (A C : List (Int × Key)) (id : Int) : assoc (A ++ C) id = (assoc A id).or (assoc C id) := by
 induction A with
 | nil => simp [assoc_nil]
 | cons x A ih =>
   rw [List.cons_append, assoc_cons, assoc_cons, ih]
   by_cases e : x.1 = id <;> simp [e]
theorem assoc_none {L : List (Int × Key)} {id : Int} : assoc L id = none ↔ ∀ x ∈ L, x.1 ≠ id := by
 induction L with
 | nil => simp [assoc_nil]
 | cons x L ih =>
   rw [assoc_cons]
   by_cases e : x.1 = id
   · simp [e]
   · simp [e, ih]
theorem assoc_split {L : List (Int × Key)} {id : Int} {k : Key} (h : assoc L id = some k) : ∃ L1 L2, L = L1 ++ (id, k) :: L2 ∧ assoc L1 id = none := by
 induction L with
 | nil => cases h
 | cons x L ih =>
   rw [assoc_cons] at h
   by_cases e : x.1 = id
   · rw [if_pos e] at h
     injection h with h
     exact ⟨[], L, by simp [← e, ← h], rfl⟩
   · rw [if_neg e] at h
     obtain ⟨L1, L2, rfl, q⟩ := ih h
     exact ⟨x :: L1, L2, rfl, by rw [assoc_cons, if_neg e]; exact q⟩
def farS (s : Nat) (H : List Key) (il : List (List Nat)) (T : List Nat) : List Nat := farOf (fun p => if live s H il (p, 0) then some 0 else none) T
theorem farTo_congr {V V' : List Nat → Option Nat} (h : ∀ p, (V p).isSome = (V' p).isSome) (T : List Nat) (n : Nat) : farTo V T n = farTo V' T n := by
 induction n with
 | zero => rfl
 | succ n ih => unfold farTo; rw [h, ih]
theorem farS_eq {s : Nat} {H : List Key} {il : List (List Nat)} {B : Key → Option Nat} (hd : ∀ k, B k ≠ none ↔ live s H il k) (T : List Nat) : farOf (fun p => B (p, 0)) T = farS s H il T := by
 refine farTo_congr (fun p => ?_) T _
 have := hd (p, 0)
 by_cases e : live s H il (p, 0)
 · rw [if_pos e]
   obtain ⟨b, hb⟩ := some_of_ne (this.2 e)
   rw [hb]; rfl
 · rw [if_neg e]
   rcases none_or (B (p, 0)) with q | ⟨b, q⟩
   · rw [q]
   · exact absurd (this.1 (by rw [q]; simp)) e
def freeS (c : Cfg) (H : List Key) (il : List (List Nat)) : Nat := c.blocks - il.length - nUsed c.slots H
def needS (c : Cfg) (H : List Key) (il : List (List Nat)) (T : List Nat) : Nat := nbOf c.slots (T.length - (farS c.slots H il T).length)
def upS (c : Cfg) (H : List Key) (il : List (List Nat)) (T : List Nat) : List (List Nat) := notUp (farS c.slots H il T) il
def fullS (c : Cfg) (k0 : Key) (H0 : List Key) (il : List (List Nat)) (T : List Nat) : Prop :=
 (freeS c (k0 :: H0) il : Int) + (upS c (k0 :: H0) il T).length < (needS c (k0 :: H0) il T : Int) - ownTail (users c.slots (k0 :: H0)) k0
instance (c : Cfg) (k0 : Key) (H0 : List Key) (il : List (List Nat)) (T : List Nat) : Decidable (fullS c k0 H0 il T) := by unfold fullS; infer_instance
def ilS (c : Cfg) (k0 : Key) (H0 : List Key) (il : List (List Nat)) (T : List Nat) : List (List Nat) :=
 (upS c (k0 :: H0) il T).drop (evN ((needS c (k0 :: H0) il T : Int) - ownTail (users c.slots (k0 :: H0)) k0 - freeS c (k0 :: H0) il) (upS c (k0 :: H0) il T))
structure HoardI (F ok : Nat → Prop) (w : World) (g : Parts) (c : Cfg) (L : List (Int × Key)) (il : List (List Nat)) : Prop where
 ex : ∃ B free, StoreI F ok w g c (L.map (·.2)) il B free ∧ MapV Tryz.prog 3 w g.SM L.length (fun id => (assoc L id).map fun k => blkV (B k))
 ids : (L.map (·.1)).Nodup
 ne : ∀ x ∈ L, x.2.1 ≠ []
 few : L.length ≤ 8
 sm : ¬ F g.SM ∧ g.SM < w.heap.size
theorem HoardI.below {F ok : Nat → Prop} {w w' : World} {g : Parts} {c : Cfg} {L : List (Int × Key)} {il : List (List Nat)} (h : HoardI F ok w g c L il) (hb : Below w.heap.size w w') : HoardI F ok w' g c L il := by
 obtain ⟨B, free, h1, h2⟩ := h.ex
 exact ⟨⟨B, free, h1.below hb, h2.keep (hb.block _ h2.lt)⟩, h.ids, h.ne, h.few, h.sm.1, Nat.lt_of_lt_of_le h.sm.2 hb.size⟩
theorem StoreI.freeS_eq {F ok : Nat → Prop} {w : World} {g : Parts} {c : Cfg} {H : List Key} {il : List (List Nat)} {B : Key → Option Nat} {free : List Nat} (h : StoreI F ok w g c H il B free) : free.length = freeS c H il := by
 have := h.count
 unfold freeS
 omega
def HPut (F ok : Nat → Prop) (w : World) (g : Parts) (c : Cfg) (L' : List (Int × Key)) (il : List (List Nat)) (k0 : Key) (H0 : List Key) (T : List Nat) (e : Ending) (w' : World) : Prop :=
 (fullS c k0 H0 il T ∧ e = .returned (.int .i64 6) ∧ Below w.heap.size w w') ∨
 (¬ fullS c k0 H0 il T ∧ e = .returned (.int .i64 0) ∧ Moves (fun k => F k ∨ k = g.SM) w w' ∧ HoardI (grow F w) ok w' g c L' (ilS c k0 H0 il T))
theorem PutTo.hput {F ok : Nat → Prop} {w w' : World} {g : Parts} {c : Cfg} {H0 : List Key} {il : List (List Nat)} {B : Key → Option Nat} {free : List Nat} {k0 : Key} {id : Int} {T : List Nat} {tn nL : Nat} {M : Int → Option Value} {e : Ending} {L' : List (Int × Key)} (h : PutTo F ok w g c H0 il B free k0 id T tn nL M e w') (hS : StoreI F ok w g c (k0 :: H0) il B free)
   (hL : ∀ B' free', StoreI (grow F w) ok w' g c (endKey c.slots T tn :: H0) (ilS c k0 H0 il T) B' free' → MapV Tryz.prog 3 w' g.SM (if M id = none then nL + 1 else nL) (fun y => if y = id then some (blkV (B' (endKey c.slots T tn))) else M y) → (∀ h ∈ H0, h.1 ≠ [] → B' h = B h) → Moves (fun k => F k ∨ k = g.SM) w w' → HoardI (grow F w) ok w' g c L' (ilS c k0 H0 il T)) :
   HPut F ok w g c L' il k0 H0 T e w' := by
 have e1 := farS_eq hS.dom T
 have e2 : putNeed c.slots B T = needS c (k0 :: H0) il T := by unfold putNeed needS; rw [e1]
 have e3 : putUp B T il = upS c (k0 :: H0) il T := by unfold putUp upS; rw [e1]
 have e4 := hS.freeS_eq
 unfold PutTo at h
 rw [e2, e3, e4] at h
 rcases h with ⟨h1, h2, h3⟩ | ⟨h1, h2, h3, B', free', h4, h5, h6⟩
 · exact .inl ⟨h1, h2, h3⟩
 · refine .inr ⟨fun hf => ?_, h2, h3, hL B' free' h4 h5 h6 h3⟩
   unfold fullS at hf
   omega
theorem mem_map_snd {L : List (Int × Key)} {x : Int × Key} (h : x ∈ L) : x.2 ∈ L.map (·.2) := List.mem_map.2 ⟨x, h, rfl⟩
theorem not_grow_sm {F : Nat → Prop} {w : World} {g : Parts} (h : ¬ F g.SM ∧ g.SM < w.heap.size) : ¬ grow F w g.SM := fun hg => hg.elim h.1 (fun hle => by have := h.2; omega)
theorem hput_new (F ok : Nat → Prop) (g : Parts) (c : Cfg) (hc : c.ok) (L : List (Int × Key)) (il : List (List Nat)) (id : Int) (T : List Nat) (vm : Value) (tn : Nat) (w : World) (h : HoardI F ok w g c L il) (hid : -9223372036854775808 ≤ id ∧ id ≤ 9223372036854775807) (hno : assoc L id = none) (h8 : L.length < 8) (hT0 : T ≠ []) (hlen : T.length ≤ 40) (htok : ∀ t ∈ T, t < c.vocab)
   (hvm : Ints w vm T.length (tkI T)) (htn : tn ≠ 0 ∧ ∀ h ∈ L.map (·.2), h.2 ≠ tn) (hok : ∀ b, w.heap.size ≤ b → ok b) :
   Calls Tryz.prog 37 #[.pointer (some ⟨g.X, 0, none⟩), .int .i64 id, vm, .slice none 0 0] w fun e w' => HPut F ok w g c (L ++ [(id, endKey c.slots T tn)]) il ([], 0) (L.map (·.2)) T e w' := by
 obtain ⟨B, free, hS, hM⟩ := h.ex
 have hS0 := hS.come hc (by simp; omega)
 have hB0 : B ([], 0) = none := hS.nil rfl
 refine (put_any F ok g c hc (L.map (·.2)) il B free ([], 0) id T vm (.slice none 0 0) 0 tn L.length _ w hS0 hM (by rw [hno, hB0]; rfl) hid (by have := h.few; omega) hT0 (by simpa using hlen) htok hvm (.inl ⟨rfl, rfl⟩) (by omega) h.sm htn (by simp; omega) hok).mono ?_
 intro e w' hp
 refine PutTo.hput hp hS0 (fun B' free' h4 h5 h6 h7 => ?_)
 refine ⟨⟨B', free', h4.perm hc ?_, ?_⟩, ?_, fun x hx => ?_, by simp; omega, not_grow_sm h.sm, Nat.lt_of_lt_of_le h.sm.2 h7.size⟩
 · rw [List.map_append]
   exact (List.perm_append_singleton _ _).symm
 · have e1 : ((assoc L id).map fun k => blkV (B k)) = none := by rw [hno]; rfl
   rw [if_pos e1] at h5
   rw [List.length_append, List.length_singleton]
   have e2 : (fun y => if y = id then some (blkV (B' (endKey c.slots T tn))) else (assoc L y).map fun k => blkV (B k)) = fun y => (assoc (L ++ [(id, endKey c.slots T tn)]) y).map fun k => blkV (B' k) := by
     funext y
     rw [assoc_append, assoc_cons, assoc_nil]
     by_cases e : y = id
     · rw [if_pos e, e, hno, if_pos rfl]; rfl
     · rw [if_neg e, if_neg (fun e' => e e'.symm)]
       cases hy : assoc L y with
       | none => rfl
       | some k =>
         obtain ⟨L1, L2, eL, _⟩ := assoc_split hy
         have hm : (y, k) ∈ L := by rw [eL]; simp
         show some (blkV (B k)) = some (blkV (B' k))
         rw [h6 k (mem_map_snd hm) (h.ne _ hm)]
   rw [e2] at h5
   exact h5
 · rw [List.map_append, List.nodup_append]
   refine ⟨h.ids, by simp, fun a ha b hb e => ?_⟩
   simp only [List.map_cons, List.map_nil, List.mem_singleton] at hb
   subst hb e
   obtain ⟨x, hx, e'⟩ := List.mem_map.1 ha
   exact assoc_none.1 hno x hx e'
 · rcases List.mem_append.1 hx with hx | hx
   · exact h.ne x hx
   · rw [List.mem_singleton] at hx
     subst hx
     exact hT0
theorem hput_old (F ok : Nat → Prop) (g : Parts) (c : Cfg) (hc : c.ok) (L1 L2 : List (Int × Key)) (il : List (List Nat)) (id : Int) (k0 : Key) (more : List Nat) (vm vr : Value) (r tn : Nat) (w : World) (h : HoardI F ok w g c (L1 ++ (id, k0) :: L2) il) (hid : -9223372036854775808 ≤ id ∧ id ≤ 9223372036854775807) (hm0 : more ≠ []) (hlen : k0.1.length + more.length ≤ 40) (htok : ∀ t ∈ more, t < c.vocab)
   (hvm : Ints w vm more.length (tkI more)) (hvr : RecI ok w vr c (k0.1 ++ more) k0.1.length r) (hr : r ≤ 100) (htn : tn ≠ 0 ∧ ∀ h ∈ (L1 ++ L2).map (·.2), h.2 ≠ tn) (hok : ∀ b, w.heap.size ≤ b → ok b) :
   Calls Tryz.prog 37 #[.pointer (some ⟨g.X, 0, none⟩), .int .i64 id, vm, vr] w fun e w' => HPut F ok w g c (L1 ++ (id, endKey c.slots (k0.1 ++ more) tn) :: L2) il k0 ((L1 ++ L2).map (·.2)) (k0.1 ++ more) e w' := by
 obtain ⟨B, free, hS, hM⟩ := h.ex
 have hids := h.ids
 rw [List.map_append, List.map_cons] at hids
 have hno : ∀ x ∈ L1 ++ L2, x.1 ≠ id := fun x hx e => by
   rw [List.nodup_append] at hids
   obtain ⟨n1, n2, n3⟩ := hids
   rcases List.mem_append.1 hx with hx | hx
   · exact n3 x.1 (List.mem_map.2 ⟨x, hx, rfl⟩) id (by simp) e
   · exact (List.nodup_cons.1 n2).1 (List.mem_map.2 ⟨x, hx, e⟩)
 have hno1 : assoc L1 id = none := assoc_none.2 (fun x hx => hno x (by simp [hx]))
 have hperm : ((L1 ++ (id, k0) :: L2).map (·.2)).Perm (k0 :: (L1 ++ L2).map (·.2)) := by
   rw [List.map_append, List.map_append, List.map_cons]
   exact List.perm_middle
 have hS0 := hS.perm hc hperm
 have has : assoc (L1 ++ (id, k0) :: L2) id = some k0 := by rw [assoc_append, hno1, assoc_cons, if_pos rfl]; rfl
 have hfew := h.few
 simp only [List.length_append, List.length_cons] at hfew
 refine (put_any F ok g c hc ((L1 ++ L2).map (·.2)) il B free k0 id more vm vr r tn (L1 ++ (id, k0) :: L2).length _ w hS0 hM (by rw [has]; rfl) hid (by simp; omega) hm0 hlen htok hvm hvr hr h.sm htn (by simp; omega) hok).mono ?_
 intro e w' hp
 refine PutTo.hput hp hS0 (fun B' free' h4 h5 h6 h7 => ?_)
 refine ⟨⟨B', free', h4.perm hc ?_, ?_⟩, ?_, fun x hx => ?_, by simp; omega, not_grow_sm h.sm, Nat.lt_of_lt_of_le h.sm.2 h7.size⟩
 · rw [List.map_append, List.map_append, List.map_cons]
   exact List.perm_middle.symm
 · have e1 : ¬ ((assoc (L1 ++ (id, k0) :: L2) id).map fun k => blkV (B k)) = none := by rw [has]; simp
   rw [if_neg e1] at h5
   rw [show (L1 ++ (id, endKey c.slots (k0.1 ++ more) tn) :: L2).length = (L1 ++ (id, k0) :: L2).length by simp]
   have e2 : (fun y => if y = id then some (blkV (B' (endKey c.slots (k0.1 ++ more) tn))) else (assoc (L1 ++ (id, k0) :: L2) y).map fun k => blkV (B k)) = fun y => (assoc (L1 ++ (id, endKey c.slots (k0.1 ++ more) tn) :: L2) y).map fun k => blkV (B' k) := by
     funext y
     rw [assoc_append, assoc_cons, assoc_append, assoc_cons]
     by_cases e : y = id
     · rw [if_pos e, e, hno1, if_pos rfl]; rfl
     · rw [if_neg e, if_neg (fun e' => e e'.symm), if_neg (fun e' => e e'.symm)]
       cases hy : (assoc L1 y).or (assoc L2 y) with
       | none => rfl
       | some k =>
         have hy2 : assoc (L1 ++ L2) y = some k := by rw [assoc_append]; exact hy
         obtain ⟨M1, M2, eL, _⟩ := assoc_split hy2
         have hm : (y, k) ∈ L1 ++ L2 := by rw [eL]; simp
         have hm' : (y, k) ∈ L1 ++ (id, k0) :: L2 := by
           rcases List.mem_append.1 hm with q | q <;> simp [q]
         show some (blkV (B k)) = some (blkV (B' k))
         rw [h6 k (mem_map_snd hm) (h.ne _ hm')]
   rw [e2] at h5
   exact h5
 · have := h.ids
   rw [List.map_append, List.map_cons] at this ⊢
   exact this
 · rcases List.mem_append.1 hx with hx | hx
   · exact h.ne x (by simp [hx])
   · rcases List.mem_cons.1 hx with hx | hx
     · subst hx
       intro e
       simp only [endKey] at e
       exact hm0 (List.append_eq_nil_iff.1 e).2
     · exact h.ne x (by simp [hx])
theorem isno_any (X : Nat) (c : Cfg) (hc : c.ok) (x : Int) (w : World) (h5 : w.cell? ⟨X, 5, none⟩ = some (.int .i64 c.vocab)) :
   Calls Tryz.prog 36 #[.pointer (some ⟨X, 0, none⟩), .int .i64 x] w fun e w' => e = .returned (.bool (!decide (0 ≤ x ∧ x ≤ (c.vocab : Int) - 1))) ∧ w' = w := by
 obtain ⟨v1, v2⟩ := hc.vocab
 go_enter Tryz.func36, Tryz.ntmps36
 go_wp2_with fail
 refine Calls_use (within_any _ _ _ _) ?_
 go_wp2
 go_ret
 exact ⟨ret_bool (by rw [Bool.eq_iff_iff]; simp), rfl⟩
set_option maxRecDepth 100000 in
set_option maxHeartbeats 1000000 in
theorem indexfunc_any (X n : Nat) (c : Cfg) (hc : c.ok) (vt : Value) (f : Nat → Int) (w : World) (h5 : w.cell? ⟨X, 5, none⟩ = some (.int .i64 c.vocab)) (ht : Ints w vt n f) :
   Calls Tryz.prog 63 #[vt, .func (.func 36) #[.pointer (some ⟨X, 0, none⟩)] #[]] w fun e w' =>
     ((∃ k : Nat, e = .returned (.int .i64 k) ∧ k < n ∧ badTok c.vocab (f k)) ∨ e = .returned (.int .i64 (-1)) ∧ (∀ j, j < n → ¬ badTok c.vocab (f j))) ∧ w' = w := by
 obtain ⟨aa, ca, rfl, ha1, ha2, ha3⟩ := ht
 unfold maxLen at ha2
 have Ha3 := hide ha3
 clear ha3
 go_enter Tryz.func63, Tryz.ntmps63
 go_wp2
 go_loop [8] (fun i => ∃ k : Nat, k ≤ n ∧ i = .int .i64 k ∧ Hid (∀ j, j < k → ¬ badTok c.vocab (f j))) (fun i => n - (intOf i).toNat)
 case atStart => exact ⟨0, Nat.zero_le _, rfl, fun j hj => absurd hj (by omega)⟩
 case round =>
   obtain ⟨k, hk, rfl, Hne⟩ := hrel
   by_cases hlt : k < n
   · obtain ⟨b1, o1, rfl, hlb1, hc1⟩ := Ha3.out (by omega)
     have c1 := hc1 k hlt
     clear hc1
     generalize hx : f k = x at c1
     have Hx := hide hx
     clear hx
     go_wp2_with fail
     refine Calls_use (isno_any X c hc x w h5) ?_
     by_cases hb : 0 ≤ x ∧ x ≤ (c.vocab : Int) - 1
     · have hd : (!decide (0 ≤ x ∧ x ≤ (c.vocab : Int) - 1)) = false := by simp [hb]
       rw [hd]
       have Hb := hide hb
       clear hb hd
       go_wp2
       go_round
       case rel =>
         refine ⟨k + 1, by omega, by go_num, fun j hj => ?_⟩
         by_cases e : j = k
         · subst e; rw [Hx.out]; have := Hb.out; unfold badTok; omega
         · exact Hne.out j (by omega)
       case measure => simp [intOf]; omega
     · have hd : (!decide (0 ≤ x ∧ x ≤ (c.vocab : Int) - 1)) = true := by simp; omega
       rw [hd]
       have Hb := hide hb
       clear hb hd
       go_wp2
       go_ret
       exact ⟨.inl ⟨k, rfl, hlt, by rw [Hx.out]; have := Hb.out; unfold badTok; omega⟩, rfl⟩
   · go_wp2
     go_ret
     exact ⟨.inr ⟨rfl, fun j hj => Hne.out j (by omega)⟩, rfl⟩
theorem containsfunc_any (X n : Nat) (c : Cfg) (hc : c.ok) (vt : Value) (f : Nat → Int) (w : World) (h5 : w.cell? ⟨X, 5, none⟩ = some (.int .i64 c.vocab)) (ht : Ints w vt n f) :
   Calls Tryz.prog 35 #[vt, .func (.func 36) #[.pointer (some ⟨X, 0, none⟩)] #[]] w fun e w' =>
     (e = .returned (.bool true) ∧ (∃ j, j < n ∧ badTok c.vocab (f j)) ∨ e = .returned (.bool false) ∧ (∀ j, j < n → ¬ badTok c.vocab (f j))) ∧ w' = w := by
 have hix := indexfunc_any X n c hc vt f w h5 ht
 have Hix := hide hix
 clear hix
 go_enter Tryz.func35, Tryz.ntmps35
 go_wp2_with fail
 refine Hix.out.mono ?_
 rintro e w1 ⟨⟨k, rfl, hk, hb⟩ | ⟨rfl, hn⟩, rfl⟩
 · have Hb := hide hb
   clear hb
   go_wp2
   go_ret
   exact ⟨.inl ⟨rfl, k, hk, Hb.out⟩, rfl⟩
 · have Hn := hide hn
   clear hn
   go_wp2
   go_ret
   exact ⟨.inr ⟨rfl, Hn.out⟩, rfl⟩
set_option maxRecDepth 100000 in
set_option maxHeartbeats 1000000 in
theorem isconfig_any (r : Raw) (w : World) :
   Calls Tryz.prog 39 #[r.agg] w fun e w' => e = .returned (.bool (@decide r.right r.dec)) ∧ Below w.heap.size w w' := by
 unfold Raw.agg
 go_enter Tryz.func39, Tryz.ntmps39
 go_wp2_with (go_at_call 64; refine Calls_use (within_any _ _ _ _) ?_)
 all_goals go_ret
 all_goals refine ⟨ret_bool ?_, (Below.refl _ _).alloc (Nat.le_refl _) _⟩
 all_goals rw [Bool.eq_iff_iff]
 all_goals simp only [decide_eq_true_eq, Bool.and_eq_true, Bool.false_eq_true, false_iff]
 all_goals unfold Raw.right
 all_goals first | omega | (simp at *; omega) | (simp at *; intros; omega)
set_option maxRecDepth 100000 in
set_option maxHeartbeats 1000000 in
theorem clone_any (n : Nat) (vt : Value) (f : Nat → Int) (w : World) (ht : IntsT w vt n f) (h1 : 1 ≤ n) (h2 : n ≤ 1000) :
   Calls Tryz.prog 83 #[vt] w fun e w' => ∃ r, e = .returned r ∧ w'.ownsRow w.heap.size 3 1 r n ((List.range n).map fun j => .int .i64 (f j)) ∧ Below w.heap.size w w' := by
 obtain ⟨i0, hi, hz0, hz1, hz2⟩ := info_parts Tryz.info_int
 have hnil := fun w a n c n' c' => Go.Lib.run_eql_slice_nil (P := Tryz.prog) w 36 3 a n c n' c' Tryz.underlying36
 have ht0 := ht
 obtain ⟨at', ct, rfl, hc1, hc2, h3⟩ := ht0
 obtain ⟨bt, ot, cur, fr, rfl, _, _⟩ := h3 (by omega)
 have hb1 : Below w.heap.size w (w.alloc (.cells #[] 3)) := (Below.refl _ _).alloc (Nat.le_refl _) _
 have Hn : Hid (IntsT (w.alloc (.cells #[] 3)) (.slice (some ⟨bt, ot, none⟩) n ct) n f) := ht.keep (KeepT.of_below hb1)
 have hown0 : (w.alloc (.cells #[] 3)).ownsRow w.heap.size 3 1 (.slice (some ⟨w.heap.size, 0, none⟩) 0 0) 0 [] := World.ownsRow_made w #[] 0 (Nat.le_refl _) (by simp [maxLen]) rfl
 go_enter Tryz.func83, Tryz.ntmps83
 go_wp2_with (at_builtin; refine wpList_append_own _ rfl _ _ 36 rfl w.heap.size 3 i0 (.int .i64 0) 1 8 Tryz.underlying36 hi hz0 hz1 hz2 rfl (by decide) (.slice (some ⟨w.heap.size, 0, none⟩) 0 0) 0 [] rfl hown0 ⟨bt, ot, none⟩ n ct ((List.range n).map fun i => .int .i64 (f i)) rfl (by simp) Hn.out.news (ints_one _ _) (by unfold maxLen; omega) (by omega) (by simp) ?_; intro v1 W1 hown1 hgrow1 _)
 go_ret
 refine ⟨_, rfl, by simpa using hown1, hb1.grown hgrow1 (by simp) (fun k hk => ?_)⟩
 simp [Value.ownBlock] at hk
 omega
end Go.Proofs.YtlmflighkkgikaaGreat
namespace Go.Proofs.YtlmflighkkgikaaGreat
structure PutS where
 keeps : Bool
 anew : Nat
 taken : List (List Nat)
def putStep (U il now : List (List Nat)) (o k : Nat) (st : PutS) : PutS :=
 if now.getD k [] ∈ U then st else if now.getD k [] ∈ il then { st with taken := st.taken ++ [now.getD k []] } else if k = o ∧ st.keeps = true then { st with keeps := false } else { st with anew := st.anew + 1 }
def putTo (U il now : List (List Nat)) (o : Nat) (kp : Bool) : Nat → PutS
 | 0 => ⟨kp, 0, []⟩
 | j + 1 => putStep U il now o (o + j) (putTo U il now o kp j)
theorem putTo_le (U il now : List (List Nat)) (o : Nat) (kp : Bool) (j : Nat) : (putTo U il now o kp j).anew ≤ j ∧ (putTo U il now o kp j).taken.length ≤ j := by
 induction j with
 | zero => simp [putTo]
 | succ j ih =>
   unfold putTo putStep
   split
   · omega
   · split
     · simp; omega
     · split
       · simp; omega
       · simp; omega
theorem putStep_in {U il now : List (List Nat)} {o k : Nat} {st : PutS} (h : now.getD k [] ∈ U) : putStep U il now o k st = st := by unfold putStep; rw [if_pos h]
theorem putStep_idle {U il now : List (List Nat)} {o k : Nat} {st : PutS} (h : now.getD k [] ∉ U) (h2 : now.getD k [] ∈ il) : putStep U il now o k st = { st with taken := st.taken ++ [now.getD k []] } := by unfold putStep; rw [if_neg h, if_pos h2]
theorem putStep_keep {U il now : List (List Nat)} {o k : Nat} {st : PutS} (h : now.getD k [] ∉ U) (h2 : now.getD k [] ∉ il) (h3 : k = o ∧ st.keeps = true) : putStep U il now o k st = { st with keeps := false } := by unfold putStep; rw [if_neg h, if_neg h2, if_pos h3]
theorem putStep_new {U il now : List (List Nat)} {o k : Nat} {st : PutS} (h : now.getD k [] ∉ U) (h2 : now.getD k [] ∉ il) (h3 : ¬ (k = o ∧ st.keeps = true)) : putStep U il now o k st = { st with anew := st.anew + 1 } := by unfold putStep; rw [if_neg h, if_neg h2, if_neg h3]
structure PutE where
 keeps : Bool
 anew : Nat
 tail : Nat
 nt : Nat
def putEnd (m : Nat) (same : Bool) (tail nt : Nat) (st : PutS) : PutE :=
 if m = 0 then ⟨st.keeps, st.anew, 0, nt⟩ else if same = true ∧ st.keeps = true then ⟨false, st.anew, tail, nt⟩ else ⟨st.keeps, st.anew + 1, nt + 1, nt + 1⟩
def leftTo (tk il : List (List Nat)) (a : Int) (h : Int) : Nat → Int × List (List Nat)
 | 0 => (h, [])
 | j + 1 => if il.getD j [] ∈ tk then leftTo tk il a h j else if (leftTo tk il a h j).1 < a then ((leftTo tk il a h j).1 + 1, (leftTo tk il a h j).2) else ((leftTo tk il a h j).1, (leftTo tk il a h j).2 ++ [il.getD j []])
theorem leftTo_len (tk il : List (List Nat)) (a h : Int) (j : Nat) : (leftTo tk il a h j).2.length ≤ j := by
 induction j with
 | zero => simp [leftTo]
 | succ j ih =>
   unfold leftTo
   split
   · omega
   · split
     · simp; omega
     · simp; omega
theorem leftTo_bd (tk il : List (List Nat)) (a h : Int) (j : Nat) : h ≤ (leftTo tk il a h j).1 ∧ (leftTo tk il a h j).1 ≤ h + j := by
 induction j with
 | zero => simp [leftTo]
 | succ j ih =>
   unfold leftTo
   split
   · omega
   · split
     · simp; omega
     · simp; omega
def putS (c : Cfg) (L : List (Int × Key)) (il : List (List Nat)) (k0 : Key) (T : List Nat) : PutS :=
 putTo (usedOf c.slots (toksOf L)) il (wholesOf c.slots T) (k0.1.length / c.slots) (decide (0 < k0.2 ∧ mineT L k0.2 L.length = 1)) (T.length / c.slots - k0.1.length / c.slots)
def putE (c : Cfg) (L : List (Int × Key)) (il : List (List Nat)) (k0 : Key) (T : List Nat) (nt : Nat) : PutE :=
 putEnd (T.length % c.slots) (decide (T.length / c.slots = k0.1.length / c.slots)) k0.2 nt (putS c L il k0 T)
def putFree (c : Cfg) (L : List (Int × Key)) (il : List (List Nat)) : Int := (c.blocks : Int) - ((usedOf c.slots (toksOf L)).length + manyT L L.length : Nat) - il.length
def putHave (c : Cfg) (L : List (Int × Key)) (il : List (List Nat)) (k0 : Key) (T : List Nat) (nt : Nat) : Int := putFree c L il + if (putE c L il k0 T nt).keeps then 1 else 0
def putFull (c : Cfg) (L : List (Int × Key)) (il : List (List Nat)) (k0 : Key) (T : List Nat) (nt : Nat) : Prop := putHave c L il k0 T nt + il.length - (putS c L il k0 T).taken.length < (putE c L il k0 T nt).anew
def putLeft (c : Cfg) (L : List (Int × Key)) (il : List (List Nat)) (k0 : Key) (T : List Nat) (nt : Nat) : List (List Nat) := (leftTo (putS c L il k0 T).taken il (putE c L il k0 T nt).anew (putHave c L il k0 T nt) il.length).2
theorem leftTo_eq (tk il : List (List Nat)) (a h : Int) (j : Nat) (hj : j ≤ il.length) :
   (leftTo tk il a h j).1 = h + min (a - h).toNat ((il.take j).filter (fun p => p ∉ tk)).length ∧ (leftTo tk il a h j).2 = ((il.take j).filter (fun p => p ∉ tk)).drop (a - h).toNat := by
 induction j with
 | zero => simp [leftTo]
 | succ j ih =>
   obtain ⟨h1, h2⟩ := ih (by omega)
   rw [take_snoc' il [] j (by omega), List.filter_append]
   unfold leftTo
   by_cases e : il.getD j [] ∈ tk
   · rw [if_pos e]
     have : [il.getD j []].filter (fun p => p ∉ tk) = [] := by generalize il.getD j [] = x at e; simp [e]
     rw [this, List.append_nil]
     exact ⟨h1, h2⟩
   · rw [if_neg e]
     have : [il.getD j []].filter (fun p => p ∉ tk) = [il.getD j []] := by generalize il.getD j [] = x at e; simp [e]
     rw [this]
     generalize (il.take j).filter (fun p => decide (p ∉ tk)) = F at h1 h2
     rw [h1, h2]
     by_cases hlt : h + min (a - h).toNat F.length < a
     · rw [if_pos hlt]
       have hle : F.length < (a - h).toNat := by omega
       refine ⟨by simp only [List.length_append, List.length_singleton]; omega, ?_⟩
       show F.drop _ = (F ++ _).drop _
       rw [List.drop_of_length_le (by omega), List.drop_of_length_le (by simp; omega)]
     · rw [if_neg hlt]
       have hle : (a - h).toNat ≤ F.length := by omega
       refine ⟨by simp only [List.length_append, List.length_singleton]; omega, ?_⟩
       show F.drop _ ++ _ = (F ++ _).drop _
       rw [List.drop_append_of_le_length hle]
theorem putTo_eq (U il now : List (List Nat)) (o f : Nat) (kp : Bool) (h1 : ∀ k, o ≤ k → k < f → now.getD k [] ∈ U ∨ now.getD k [] ∈ il) (h2 : ∀ k, f ≤ k → k < now.length → now.getD k [] ∉ U ∧ now.getD k [] ∉ il) (hof : o ≤ f) (j : Nat) (hj : o + j ≤ now.length) :
   (o + j ≤ f → (putTo U il now o kp j).keeps = kp ∧ (putTo U il now o kp j).anew = 0) ∧
   (f ≤ o + j → ((putTo U il now o kp j).anew : Int) + (if kp then 1 else 0) - (if (putTo U il now o kp j).keeps then 1 else 0) = (o + j : Int) - f ∧ ((putTo U il now o kp j).keeps = true → kp = true ∧ (o < f ∨ j = 0))) ∧
   (∀ p, p ∈ (putTo U il now o kp j).taken ↔ ∃ k, o ≤ k ∧ k < o + j ∧ k < f ∧ now.getD k [] = p ∧ p ∉ U) := by
 induction j with
 | zero =>
   refine ⟨fun _ => ⟨rfl, rfl⟩, fun h => ⟨by have e : f = o := (by omega); subst e; cases kp <;> simp [putTo], fun h' => ⟨h', .inr rfl⟩⟩, fun p => ?_⟩
   simp only [putTo]
   constructor
   · intro h; simp at h
   · rintro ⟨k, a, b, _⟩; omega
 | succ j ih =>
   obtain ⟨i1, i2, i3⟩ := ih (by omega)
   unfold putTo
   by_cases hU : now.getD (o + j) [] ∈ U
   · rw [putStep_in hU]
     have hjf : o + j < f := by
       by_cases h : o + j < f
       · exact h
       · exact absurd hU (h2 _ (by omega) (by omega)).1
     refine ⟨fun _ => i1 (by omega), fun h => ?_, fun p => ?_⟩
     · obtain ⟨q1, q2⟩ := i1 (by omega)
       rw [q1, q2]
       exact ⟨by split <;> simp <;> omega, fun h' => ⟨h', .inl (by omega)⟩⟩
     · rw [i3]
       constructor
       · rintro ⟨k, a, b, r⟩; exact ⟨k, a, by omega, r⟩
       · rintro ⟨k, a, b, r1, r2, r3⟩
         refine ⟨k, a, ?_, r1, r2, r3⟩
         by_cases e : k = o + j
         · subst e; rw [r2] at hU; exact absurd hU r3
         · omega
   · by_cases hI : now.getD (o + j) [] ∈ il
     · rw [putStep_idle hU hI]
       have hjf : o + j < f := by
         by_cases h : o + j < f
         · exact h
         · exact absurd hI (h2 _ (by omega) (by omega)).2
       refine ⟨fun _ => i1 (by omega), fun h => ?_, fun p => ?_⟩
       · obtain ⟨q1, q2⟩ := i1 (by omega)
         simp only [q1, q2]
         exact ⟨by split <;> simp <;> omega, fun h' => ⟨h', .inl (by omega)⟩⟩
       · simp only [List.mem_append, List.mem_singleton, i3]
         constructor
         · rintro (⟨k, a, b, r⟩ | rfl)
           · exact ⟨k, a, by omega, r⟩
           · exact ⟨o + j, by omega, by omega, hjf, rfl, hU⟩
         · rintro ⟨k, a, b, r1, r2, r3⟩
           by_cases e : k = o + j
           · subst e; exact .inr r2.symm
           · exact .inl ⟨k, a, by omega, r1, r2, r3⟩
     · have hfj : f ≤ o + j := by
         by_cases h : o + j < f
         · rcases h1 (o + j) (by omega) h with h' | h'
           · exact absurd h' hU
           · exact absurd h' hI
         · omega
       obtain ⟨q1, q2⟩ := i2 hfj
       have tk : ∀ p, (∃ k, o ≤ k ∧ k < o + j ∧ k < f ∧ now.getD k [] = p ∧ p ∉ U) ↔ (∃ k, o ≤ k ∧ k < o + (j + 1) ∧ k < f ∧ now.getD k [] = p ∧ p ∉ U) := fun p => by
         constructor
         · rintro ⟨k, a, b, r⟩; exact ⟨k, a, by omega, r⟩
         · rintro ⟨k, a, b, r1, r⟩; exact ⟨k, a, by omega, r1, r⟩
       by_cases h3 : o + j = o ∧ (putTo U il now o kp j).keeps = true
       · rw [putStep_keep hU hI h3]
         refine ⟨fun h => absurd h (by omega), fun h => ?_, fun p => by rw [← tk]; exact i3 p⟩
         have hk := (q2 h3.2).1
         rw [h3.2, hk] at q1
         simp at q1
         refine ⟨?_, fun h' => absurd h' (by simp)⟩
         simp [hk]
         omega
       · rw [putStep_new hU hI h3]
         refine ⟨fun h => absurd h (by omega), fun h => ⟨?_, fun h' => ?_⟩, fun p => by rw [← tk]; exact i3 p⟩
         · have q1' := q1
           simp only []
           generalize (if (putTo U il now o kp j).keeps = true then (1 : Int) else 0) = z at q1' ⊢
           generalize (if kp = true then (1 : Int) else 0) = y at q1' ⊢
           omega
         · obtain ⟨r1, r2⟩ := q2 h'
           refine ⟨r1, .inl ?_⟩
           rcases r2 with r2 | r2
           · exact r2
           · exact absurd ⟨by omega, h'⟩ h3
theorem putTo_nodup (U il now : List (List Nat)) (o : Nat) (kp : Bool) (hi : ∀ k k', k < now.length → k' < k → now.getD k [] ≠ now.getD k' []) (j : Nat) (hj : o + j ≤ now.length) :
   (putTo U il now o kp j).taken.Nodup ∧ ∀ p ∈ (putTo U il now o kp j).taken, ∃ k, k < o + j ∧ now.getD k [] = p := by
 induction j with
 | zero => simp [putTo]
 | succ j ih =>
   obtain ⟨i1, i2⟩ := ih (by omega)
   have i2' : ∀ p ∈ (putTo U il now o kp j).taken, ∃ k, k < o + (j + 1) ∧ now.getD k [] = p := fun p hp => by
     obtain ⟨k, h1, h2⟩ := i2 p hp
     exact ⟨k, by omega, h2⟩
   unfold putTo putStep
   split
   · exact ⟨i1, i2'⟩
   · split
     · refine ⟨?_, fun p hp => ?_⟩
       · simp only []
         rw [List.nodup_append]
         refine ⟨i1, by simp, fun a ha b hb e => ?_⟩
         rw [List.mem_singleton] at hb
         subst hb
         obtain ⟨k, h1, h2⟩ := i2 a ha
         exact hi (o + j) k (by omega) h1 (by rw [h2, e])
       · simp only [List.mem_append, List.mem_singleton] at hp
         rcases hp with hp | rfl
         · exact i2' p hp
         · exact ⟨o + j, by omega, rfl⟩
     · split
       · exact ⟨i1, i2'⟩
       · exact ⟨i1, i2'⟩
theorem wholesOf_get (s : Nat) (T : List Nat) (k : Nat) (h : k < T.length / s) : (wholesOf s T).getD k [] = T.take ((k + 1) * s) := by
 unfold wholesOf
 rw [List.getD_eq_getElem?_getD, List.getElem?_map, List.getElem?_range h]
 rfl
theorem wholes_le (s : Nat) (T : List Nat) (hs : 1 ≤ s) (k : Nat) (h : k < T.length / s) : (k + 1) * s ≤ T.length := by
 have := (Nat.lt_div_iff_mul_lt (k := s) (by omega)).1 h
 rw [Nat.add_mul]
 have e : s * k = k * s := Nat.mul_comm _ _
 omega
def putTn (c : Cfg) (L : List (Int × Key)) (il : List (List Nat)) (k0 : Key) (T : List Nat) (nt : Nat) : Nat := if decide (T.length / c.slots = k0.1.length / c.slots) = true ∧ (putS c L il k0 T).keeps = true then k0.2 else nt + 1
theorem putE_tail (c : Cfg) (L : List (Int × Key)) (il : List (List Nat)) (k0 : Key) (T : List Nat) (nt : Nat) : (T, (putE c L il k0 T nt).tail) = endKey c.slots T (putTn c L il k0 T nt) := by
 unfold endKey putTn putE putEnd
 split
 · rfl
 · split <;> rfl
theorem putE_nt (c : Cfg) (L : List (Int × Key)) (il : List (List Nat)) (k0 : Key) (T : List Nat) (nt : Nat) : nt ≤ (putE c L il k0 T nt).nt ∧ (putE c L il k0 T nt).nt ≤ nt + 1 := by
 unfold putE putEnd
 split
 · simp
 · split <;> simp
theorem far_factsS {s v : Nat} {H : List Key} {il : List (List Nat)} (hp : Pure s v H il) (T : List Nat) :
   farS s H il T <+: T ∧ (farS s H il T).length % s = 0 ∧ ((farS s H il T, 0) = (([], 0) : Key) ∨ live s H il (farS s H il T, 0)) ∧ ∀ e, (farS s H il T).length < e → e ≤ T.length → ¬ live s H il (T.take e, 0) := by
 have := far_facts (B := fun k => if live s H il k then some 0 else none) hp (fun k => by by_cases e : live s H il k <;> simp [e]) T
 obtain ⟨h1, _, _, h2, h3, h4⟩ := this
 exact ⟨h1, h2, h3, h4⟩
theorem put_same (c : Cfg) (hc : c.ok) (L : List (Int × Key)) (il : List (List Nat)) (k0 : Key) (H0 : List Key) (T : List Nat) (nt : Nat) (hp : Pure c.slots c.vocab (k0 :: H0) il) (hkT : k0.1 <+: T) (hU : ∀ p, p ∈ usedOf c.slots (toksOf L) ↔ heldBy c.slots (k0 :: H0) (p, 0)) (hN : nUsed c.slots (k0 :: H0) = (usedOf c.slots (toksOf L)).length + manyT L L.length)
   (hm : (0 < k0.2 ∧ mineT L k0.2 L.length = 1) ↔ (k0.1 ≠ [] ∧ k0.2 ≠ 0 ∧ users c.slots (k0 :: H0) k0 = 1)) (hfree : nUsed c.slots (k0 :: H0) + il.length ≤ c.blocks) :
   (putFull c L il k0 T nt ↔ fullS c k0 H0 il T) ∧ putLeft c L il k0 T nt = ilS c k0 H0 il T ∧ ((putS c L il k0 T).keeps = true → 0 < k0.2 ∧ mineT L k0.2 L.length = 1) := by
 obtain ⟨s1, s2⟩ := hc.slots
 obtain ⟨f1, f2, f3, f4⟩ := far_factsS hp T
 obtain ⟨far, hfar⟩ : ∃ far, far = farS c.slots (k0 :: H0) il T := ⟨_, rfl⟩
 rw [← hfar] at f1 f2 f3 f4
 obtain ⟨q, hq⟩ := Nat.dvd_of_mod_eq_zero f2
 have hq' : far.length = q * c.slots := by rw [hq, Nat.mul_comm]
 have hfl := f1.length_le
 have hqn : q ≤ T.length / c.slots := by rw [Nat.le_div_iff_mul_le (by omega)]; omega
 have hkl := hkT.length_le
 have hon : k0.1.length / c.slots ≤ T.length / c.slots := Nat.div_le_div_right hkl
 have hpre : ∀ a b : Nat, a ≤ b → T.take a <+: T.take b := fun a b hab => by
   refine List.prefix_iff_eq_take.2 ?_
   rw [List.take_take, List.length_take]
   rcases Nat.le_total a T.length with h | h
   · congr 1; omega
   · rw [List.take_of_length_le (by omega), List.take_of_length_le (by omega)]
 have eT : ∀ p : List Nat, p <+: T → p = T.take p.length := fun p hp => List.prefix_iff_eq_take.1 hp
 have live_whole : ∀ k, k < T.length / c.slots → (k < q → live c.slots (k0 :: H0) il (T.take ((k + 1) * c.slots), 0)) := fun k hk hkq => by
   have hle : (k + 1) * c.slots ≤ q * c.slots := Nat.mul_le_mul_right _ hkq
   have hpos : 0 < (k + 1) * c.slots := Nat.mul_pos (by omega) (by omega)
   have hlT := wholes_le c.slots T s1 k hk
   have hl : (T.take ((k + 1) * c.slots)).length = (k + 1) * c.slots := by rw [List.length_take]; omega
   rcases f3 with e | hl3
   · have : far = [] := congrArg Prod.fst e
     rw [this] at hq'
     have h0 : 0 < q * c.slots := Nat.mul_pos (by omega) (by omega)
     simp only [List.length_nil] at hq'
     omega
   · refine hp.live_on hl3 ⟨fun e => ?_, .inr ⟨rfl, ?_, ?_⟩⟩
     · have e' : T.take ((k + 1) * c.slots) = [] := e
       rw [e'] at hl; simp only [List.length_nil] at hl; omega
     · show (T.take _).length % _ = 0
       rw [hl]; simp
     · show T.take _ <+: far
       rw [eT far f1]
       exact hpre _ _ (by omega)
 have live_iff : ∀ p : List Nat, live c.slots (k0 :: H0) il (p, 0) ↔ p ∈ usedOf c.slots (toksOf L) ∨ p ∈ il := fun p => by
   unfold live; rw [hU]; simp
 have hof : k0.1.length / c.slots ≤ q := by
   refine Nat.le_of_not_lt (fun h => ?_)
   have h1 : q + 1 ≤ k0.1.length / c.slots := h
   rw [Nat.le_div_iff_mul_le (by omega)] at h1
   have hlT : (q + 1) * c.slots ≤ T.length := by omega
   have hgt : far.length < (q + 1) * c.slots := by rw [hq', Nat.add_mul]; omega
   refine f4 ((q + 1) * c.slots) hgt hlT (.inl ((heldBy_cons _ _ _ _).2 (.inl ⟨fun e => ?_, .inr ⟨rfl, ?_, ?_⟩⟩)))
   · have e' : T.take ((q + 1) * c.slots) = [] := e
     have hl : (T.take ((q + 1) * c.slots)).length = (q + 1) * c.slots := by rw [List.length_take]; omega
     rw [e'] at hl; simp only [List.length_nil] at hl; omega
   · show (T.take _).length % _ = 0
     rw [List.length_take, Nat.min_eq_left hlT]; simp
   · show T.take _ <+: k0.1
     rw [eT k0.1 hkT]
     exact hpre _ _ h1
 have hlen : (wholesOf c.slots T).length = T.length / c.slots := wholesOf_len _ _
 have hlt : ∀ k, k < T.length / c.slots → ((wholesOf c.slots T).getD k []).length = (k + 1) * c.slots := fun k hk => by
   rw [wholesOf_get c.slots T k hk, List.length_take]
   have := wholes_le c.slots T s1 k hk
   omega
 obtain ⟨kp, hkp⟩ : ∃ kp, kp = decide (0 < k0.2 ∧ mineT L k0.2 L.length = 1) := ⟨_, rfl⟩
 have hown : (if kp = true then (1 : Int) else 0) = ownTail (users c.slots (k0 :: H0)) k0 := by
   unfold ownTail
   by_cases e : 0 < k0.2 ∧ mineT L k0.2 L.length = 1
   · rw [hkp, if_pos (by simpa using e), if_pos (hm.1 e)]; rfl
   · rw [hkp, if_neg (by simpa using e), if_neg (fun h => e (hm.2 h))]; rfl
 have hj : k0.1.length / c.slots + (T.length / c.slots - k0.1.length / c.slots) = T.length / c.slots := by omega
 obtain ⟨t1, t2, t3⟩ := putTo_eq (usedOf c.slots (toksOf L)) il (wholesOf c.slots T) (k0.1.length / c.slots) q kp
   (fun k h1 h2 => by
     rw [wholesOf_get c.slots T k (by omega), ← live_iff]
     exact live_whole k (by omega) h2)
   (fun k h1 h2 => by
     rw [hlen] at h2
     have hnl := f4 ((k + 1) * c.slots) (by rw [hq']; exact Nat.lt_of_lt_of_le (Nat.mul_lt_mul_of_pos_right (Nat.lt_succ_self q) (by omega)) (Nat.mul_le_mul_right _ (by omega))) (wholes_le c.slots T s1 k h2)
     rw [live_iff] at hnl
     rw [wholesOf_get c.slots T k h2]
     exact ⟨fun h => hnl (.inl h), fun h => hnl (.inr h)⟩) hof (T.length / c.slots - k0.1.length / c.slots) (by rw [hlen, hj]; exact Nat.le_refl _)
 obtain ⟨n1, _⟩ := putTo_nodup (usedOf c.slots (toksOf L)) il (wholesOf c.slots T) (k0.1.length / c.slots) kp (fun k k' h1 h2 e => by
     rw [hlen] at h1
     have := congrArg List.length e
     rw [hlt k h1, hlt k' (by omega)] at this
     have := Nat.mul_lt_mul_of_pos_right (show k' + 1 < k + 1 by omega) (show 0 < c.slots by omega)
     omega) (T.length / c.slots - k0.1.length / c.slots) (by rw [hlen, hj]; exact Nat.le_refl _)
 rw [hj] at t2 t3
 have hst : putTo (usedOf c.slots (toksOf L)) il (wholesOf c.slots T) (k0.1.length / c.slots) kp (T.length / c.slots - k0.1.length / c.slots) = putS c L il k0 T := by unfold putS; rw [hkp]
 rw [hst] at t2 t3 n1
 obtain ⟨t2a, t2b⟩ := t2 (by omega)
 obtain ⟨st, est⟩ : ∃ st, st = putS c L il k0 T := ⟨_, rfl⟩
 rw [← est] at t2a t2b t3 n1
 -- what is taken up
 have htk : ∀ p ∈ il, (p ∈ st.taken ↔ p <+: far) := fun p hpi => by
   have hw := hp.whole p hpi
   have hnu : p ∉ usedOf c.slots (toksOf L) := fun h => hp.out p hpi ((hU p).1 h)
   rw [t3]
   constructor
   · rintro ⟨k, _, _, h3, rfl, _⟩
     rw [wholesOf_get c.slots T k (by omega), eT far f1, hq']
     exact hpre _ _ (Nat.mul_le_mul_right _ h3)
   · intro hpf
     have hpT := hpf.trans f1
     have hmem := (mem_wholesOf c.slots s1 T p).2 ⟨hw.1, hw.2.1, hpT⟩
     obtain ⟨k, hk, e⟩ := List.getElem_of_mem hmem
     rw [hlen] at hk
     have e' : (wholesOf c.slots T).getD k [] = p := by rw [List.getD_eq_getElem?_getD, List.getElem?_eq_getElem (by rw [hlen]; exact hk), e]; rfl
     have hl := hlt k hk
     rw [e'] at hl
     have hkq : k < q := by
       have := hpf.length_le
       rw [hl, hq'] at this
       have := Nat.le_of_mul_le_mul_right this (by omega)
       omega
     refine ⟨k, ?_, by omega, hkq, e', hnu⟩
     refine Nat.le_of_not_lt (fun hko => hnu ((hU p).2 ((heldBy_cons _ _ _ _).2 (.inl ⟨hw.1, .inr ⟨rfl, hw.2.1, ?_⟩⟩))))
     show p <+: k0.1
     rw [eT k0.1 hkT, eT p hpT]
     refine hpre _ _ ?_
     rw [hl]
     have : k + 1 ≤ k0.1.length / c.slots := hko
     rw [Nat.le_div_iff_mul_le (by omega)] at this
     exact this
 have hup : il.filter (fun p => p ∉ st.taken) = upS c (k0 :: H0) il T := by
   unfold upS notUp
   rw [← hfar]
   apply List.filter_congr
   intro p hpi
   have := htk p hpi
   by_cases e : p <+: far
   · simp [e, this.2 e]
   · have hn : p ∉ st.taken := fun h => e (this.1 h)
     simp [e, hn]
 have hcnt : st.taken.length + (upS c (k0 :: H0) il T).length = il.length := by
   have h1 := filter_split (fun p => decide (p ∈ st.taken)) il
   have h2 : il.filter (fun x => !decide (x ∈ st.taken)) = upS c (k0 :: H0) il T := by rw [← hup]; apply List.filter_congr; intro p _; simp
   rw [h2] at h1
   have h3 : st.taken.length = (il.filter (fun p => decide (p ∈ st.taken))).length := by
     refine nodup_eq n1 (hp.nodup.filter _) (fun p => ?_)
     rw [List.mem_filter]
     constructor
     · intro h
       refine ⟨?_, by simpa using h⟩
       obtain ⟨k, a1, a2, a3, e, a5⟩ := (t3 p).1 h
       have hl := live_whole k (by omega) a3
       rw [← wholesOf_get c.slots T k (by omega), e, live_iff] at hl
       exact hl.resolve_left a5
     · rintro ⟨_, h⟩; simpa using h
   omega
 -- what is needed
 have hneed : ((putE c L il k0 T nt).anew : Int) + (if kp = true then 1 else 0) - (if (putE c L il k0 T nt).keeps = true then 1 else 0) = needS c (k0 :: H0) il T := by
   have hnb : (needS c (k0 :: H0) il T : Int) = (T.length / c.slots : Nat) - q + (if T.length % c.slots = 0 then 0 else 1) := by
     have h1 : c.slots * (T.length / c.slots) + T.length % c.slots = T.length := Nat.div_add_mod _ _
     have h2 : T.length - far.length = T.length % c.slots + (T.length / c.slots - q) * c.slots := by
       rw [Nat.sub_mul, hq']
       have := Nat.mul_le_mul_right c.slots hqn
       rw [Nat.mul_comm c.slots] at h1
       omega
     have h3 := Nat.mod_lt T.length (show 0 < c.slots by omega)
     unfold needS nbOf
     rw [← hfar, h2]
     by_cases e : T.length % c.slots = 0
     · rw [if_pos e, e, show 0 + (T.length / c.slots - q) * c.slots + c.slots - 1 = c.slots - 1 + (T.length / c.slots - q) * c.slots by omega, Nat.add_mul_div_right _ _ (by omega), Nat.div_eq_of_lt (by omega)]
       omega
     · rw [if_neg e, show T.length % c.slots + (T.length / c.slots - q) * c.slots + c.slots - 1 = (T.length % c.slots - 1) + (T.length / c.slots - q + 1) * c.slots by rw [Nat.add_mul]; omega, Nat.add_mul_div_right _ _ (by omega), Nat.div_eq_of_lt (by omega)]
       omega
   rw [hnb]
   unfold putE putEnd
   rw [← est]
   by_cases e : T.length % c.slots = 0
   · simp only [if_pos e]
     generalize (if kp = true then (1 : Int) else 0) = y at t2a ⊢
     generalize (if st.keeps = true then (1 : Int) else 0) = z at t2a ⊢
     omega
   · simp only [if_neg e]
     by_cases e2 : decide (T.length / c.slots = k0.1.length / c.slots) = true ∧ st.keeps = true
     · rw [if_pos e2]
       rw [e2.2] at t2a
       simp only [if_true] at t2a
       generalize (if kp = true then (1 : Int) else 0) = y at t2a ⊢
       simp
       omega
     · rw [if_neg e2]
       simp only []
       generalize (if kp = true then (1 : Int) else 0) = y at t2a ⊢
       generalize (if st.keeps = true then (1 : Int) else 0) = z at t2a ⊢
       omega
 rw [hown] at hneed
 have hfr : putFree c L il = freeS c (k0 :: H0) il := by
   unfold putFree freeS
   rw [← hN]
   omega
 refine ⟨?_, ?_, fun h => ?_⟩
 · unfold putFull putHave fullS
   rw [hfr, ← est]
   generalize (if (putE c L il k0 T nt).keeps = true then (1 : Int) else 0) = z at hneed ⊢
   omega
 · unfold putLeft ilS
   rw [(leftTo_eq _ il _ _ il.length (Nat.le_refl _)).2, List.take_length, ← est, hup]
   have e : ((putE c L il k0 T nt).anew : Int) - putHave c L il k0 T nt = (needS c (k0 :: H0) il T : Int) - ownTail (users c.slots (k0 :: H0)) k0 - freeS c (k0 :: H0) il := by
     unfold putHave
     rw [hfr]
     generalize (if (putE c L il k0 T nt).keeps = true then (1 : Int) else 0) = z at hneed ⊢
     omega
   rw [e]
   unfold evN
   generalize ((needS c (k0 :: H0) il T : Int) - ownTail (users c.slots (k0 :: H0)) k0 - freeS c (k0 :: H0) il).toNat = n
   rcases Nat.le_total n (upS c (k0 :: H0) il T).length with h | h
   · rw [Nat.min_eq_left h]
   · rw [Nat.min_eq_right h, List.drop_of_length_le h, List.drop_of_length_le (Nat.le_refl _)]
 · have := (t2b (by rw [est]; exact h)).1
   rw [hkp] at this
   simpa using this
end Go.Proofs.YtlmflighkkgikaaGreat
namespace Go.Proofs.YtlmflighkkgikaaGreat
open Go.RowKit
theorem TailsOk.of_keys {s : Nat} {L L' : List (Int × Key)} {nt : Nat} (h : TailsOk s L nt) (hs : ∀ y ∈ L', ∃ x ∈ L, x.2 = y.2) : TailsOk s L' nt := by
 refine ⟨fun y hy => ?_, fun y hy => ?_, fun x hx y hy e hne => ?_⟩
 · obtain ⟨x, hx, e⟩ := hs y hy
   rw [← e]; exact h.key x hx
 · obtain ⟨x, hx, e⟩ := hs y hy
   rw [← e]; exact h.le x hx
 · obtain ⟨x', hx', ex⟩ := hs x hx
   obtain ⟨y', hy', ey⟩ := hs y hy
   rw [← ex, ← ey] at e ⊢
   rw [← ex] at hne
   exact h.same x' hx' y' hy' e hne
theorem TailsOk.more {s : Nat} {L : List (Int × Key)} {nt nt' : Nat} (h : TailsOk s L nt) (hn : nt ≤ nt') : TailsOk s L nt' := ⟨h.key, fun x hx => Nat.le_trans (h.le x hx) hn, h.same⟩
theorem TailsOk.put {s : Nat} {L1 L2 M : List (Int × Key)} {nt nt' : Nat} {x : Int × Key} (h : TailsOk s M nt) (hM : ∀ y ∈ L1 ++ L2, y ∈ M) (hn : nt ≤ nt') (hk : keyOk s x.2) (hl : x.2.2 ≤ nt') (hne : x.2.2 ≠ 0 → ∀ y ∈ L1 ++ L2, y.2.2 ≠ x.2.2) : TailsOk s (L1 ++ x :: L2) nt' := by
 have mem : ∀ y ∈ L1 ++ x :: L2, y = x ∨ y ∈ L1 ++ L2 := fun y hy => by
   rcases List.mem_append.1 hy with hy | hy
   · exact .inr (List.mem_append.2 (.inl hy))
   · rcases List.mem_cons.1 hy with hy | hy
     · exact .inl hy
     · exact .inr (List.mem_append.2 (.inr hy))
 refine ⟨fun y hy => ?_, fun y hy => ?_, fun a ha b hb e h0 => ?_⟩
 · rcases mem y hy with rfl | hy
   · exact hk
   · exact h.key y (hM y hy)
 · rcases mem y hy with rfl | hy
   · exact hl
   · exact Nat.le_trans (h.le y (hM y hy)) hn
 · rcases mem a ha with ha' | ha'
   · rcases mem b hb with hb' | hb'
     · rw [ha', hb']
     · rw [ha'] at e h0; exact absurd e.symm (hne h0 b hb')
   · rcases mem b hb with hb' | hb'
     · rw [hb'] at e; exact absurd e (hne (by rw [← e]; exact h0) a ha')
     · exact h.same a (hM a ha') b (hM b hb') e h0
theorem mineT_count (L : List (Int × Key)) (n k : Nat) (hn : 0 < n) (hk : k ≤ L.length) : mineT L n k = (L.take k).countP (fun x => decide (x.2.2 = n)) := by
 induction k with
 | zero => simp [mineT]
 | succ k ih =>
   have hlt : k < L.length := by omega
   rw [List.take_succ_eq_append_getElem hlt, List.countP_append, ← ih (by omega)]
   have et : tailAt L k = L[k].2.2 := by unfold tailAt; rw [List.getD_eq_getElem?_getD, List.getElem?_eq_getElem hlt]; rfl
   by_cases e : L[k].2.2 = n
   · rw [mineT_yes L n k (by rw [et, e]; exact hn) (by rw [et, e])]
     simp [e]
   · rw [mineT_no L n k (fun q => e (by rw [← et]; exact q.2))]
     simp [e]
theorem mine_users {s : Nat} {L : List (Int × Key)} {nt : Nat} (hT : TailsOk s L nt) {k0 : Key} (hk : ∃ x ∈ L, x.2 = k0) (hne : k0.1 ≠ []) (h0 : k0.2 ≠ 0) : mineT L k0.2 L.length = users s (L.map (·.2)) k0 := by
 rw [mineT_count L k0.2 L.length (by omega) (Nat.le_refl _), List.take_length]
 unfold users
 rw [List.countP_map]
 apply List.countP_congr
 intro x hx
 simp only [Function.comp, decide_eq_true_eq]
 obtain ⟨x0, hx0, e0⟩ := hk
 constructor
 · intro e
   have := hT.same x hx x0 hx0 (by rw [e, e0]) (by rw [e]; exact h0)
   rw [this, e0]
   exact on_self s k0 hne
 · rintro ⟨_, e | ⟨e, _⟩⟩
   · rw [← e]
   · exact absurd e h0
theorem split_perm (L1 L2 : List (Int × Key)) (id : Int) (k0 : Key) : ((L1 ++ (id, k0) :: L2).map (·.2)).Perm (k0 :: (L1 ++ L2).map (·.2)) := by
 rw [List.map_append, List.map_append, List.map_cons]
 exact List.perm_middle
theorem heldBy_perm {s : Nat} {H H' : List Key} (h : H.Perm H') (k : Key) : heldBy s H k ↔ heldBy s H' k := ⟨fun ⟨x, hx, e⟩ => ⟨x, h.mem_iff.1 hx, e⟩, fun ⟨x, hx, e⟩ => ⟨x, h.mem_iff.2 hx, e⟩⟩
theorem nUsed_perm2 {s : Nat} (hs : 1 ≤ s) {H H' : List Key} (h : H.Perm H') (hok : ∀ x ∈ H, keyOk s x) : nUsed s H = nUsed s H' := nUsed_congr s H H' hs hok (fun x hx => hok x (h.mem_iff.2 hx)) (fun k => heldBy_perm h k)
theorem put_old (c : Cfg) (hc : c.ok) (L1 L2 : List (Int × Key)) (il : List (List Nat)) (id : Int) (k0 : Key) (T : List Nat) (nt : Nat) (hT : TailsOk c.slots (L1 ++ (id, k0) :: L2) nt) (hne : ∀ x ∈ L1 ++ (id, k0) :: L2, x.2.1 ≠ []) (hp : Pure c.slots c.vocab ((L1 ++ (id, k0) :: L2).map (·.2)) il) (hkT : k0.1 <+: T) (hfree : nUsed c.slots ((L1 ++ (id, k0) :: L2).map (·.2)) + il.length ≤ c.blocks) :
   (putFull c (L1 ++ (id, k0) :: L2) il k0 T nt ↔ fullS c k0 ((L1 ++ L2).map (·.2)) il T) ∧ putLeft c (L1 ++ (id, k0) :: L2) il k0 T nt = ilS c k0 ((L1 ++ L2).map (·.2)) il T ∧ putTn c (L1 ++ (id, k0) :: L2) il k0 T nt ≠ 0 ∧ (∀ h ∈ (L1 ++ L2).map (·.2), h.2 ≠ putTn c (L1 ++ (id, k0) :: L2) il k0 T nt) ∧ putTn c (L1 ++ (id, k0) :: L2) il k0 T nt ≤ nt + 1 := by
 have hs := hc.slots.1
 have hpm := split_perm L1 L2 id k0
 have hok : ∀ x ∈ (L1 ++ (id, k0) :: L2).map (·.2), keyOk c.slots x := fun x hx => by
   obtain ⟨y, hy, rfl⟩ := List.mem_map.1 hx
   exact hT.key y hy
 have hmem : (id, k0) ∈ L1 ++ (id, k0) :: L2 := by simp
 have hk0 : k0.1 ≠ [] := hne _ hmem
 have hmu : k0.2 ≠ 0 → mineT (L1 ++ (id, k0) :: L2) k0.2 (L1 ++ (id, k0) :: L2).length = users c.slots (k0 :: (L1 ++ L2).map (·.2)) k0 := fun h0 => by
   rw [mine_users hT ⟨_, hmem, rfl⟩ hk0 h0]
   exact users_perm c.slots hpm k0
 obtain ⟨q1, q2, q3⟩ := put_same c hc (L1 ++ (id, k0) :: L2) il k0 ((L1 ++ L2).map (·.2)) T nt (hp.perm (fun x => hpm.mem_iff)) hkT (fun p => by rw [← held_whole c.slots hs _ hT.key]; exact heldBy_perm hpm (p, 0)) (by rw [← nUsed_perm2 hs hpm hok, nUsed_ref c.slots hs _ nt hT hne]) (by
   constructor
   · rintro ⟨h1, h2⟩
     exact ⟨hk0, by omega, by rw [← hmu (by omega)]; exact h2⟩
   · rintro ⟨_, h1, h2⟩
     exact ⟨by omega, by rw [hmu h1]; exact h2⟩) (by rw [← nUsed_perm2 hs hpm hok]; exact hfree)
 refine ⟨q1, q2, ?_⟩
 unfold putTn
 by_cases hk : decide (T.length / c.slots = k0.1.length / c.slots) = true ∧ (putS c (L1 ++ (id, k0) :: L2) il k0 T).keeps = true
 · rw [if_pos hk]
   obtain ⟨h1, h2⟩ := q3 hk.2
   refine ⟨by omega, fun h hh e => ?_, by have := hT.le _ hmem; simp only at this; omega⟩
   obtain ⟨y, hy, rfl⟩ := List.mem_map.1 hh
   have hy' : y ∈ L1 ++ (id, k0) :: L2 := by
     rcases List.mem_append.1 hy with hy | hy
     · simp [hy]
     · simp [hy]
   have hyk := hT.same y hy' _ hmem e (by rw [e]; omega)
   rw [hmu (by omega), users_cons, if_pos (on_self _ _ hk0)] at h2
   have : 0 < users c.slots ((L1 ++ L2).map (·.2)) k0 := (users_pos _ _ _).2 ⟨y.2, List.mem_map.2 ⟨y, hy, rfl⟩, by rw [hyk]; exact on_self _ _ hk0⟩
   omega
 · rw [if_neg hk]
   refine ⟨by omega, fun h hh e => ?_, Nat.le_refl _⟩
   obtain ⟨y, hy, rfl⟩ := List.mem_map.1 hh
   have hy' : y ∈ L1 ++ (id, k0) :: L2 := by
     rcases List.mem_append.1 hy with hy | hy
     · simp [hy]
     · simp [hy]
   have := hT.le y hy'
   omega
theorem put_fresh (c : Cfg) (hc : c.ok) (L : List (Int × Key)) (il : List (List Nat)) (T : List Nat) (nt : Nat) (hT : TailsOk c.slots L nt) (hne : ∀ x ∈ L, x.2.1 ≠ []) (hp : Pure c.slots c.vocab (L.map (·.2)) il) (hfree : nUsed c.slots (L.map (·.2)) + il.length ≤ c.blocks) :
   (putFull c L il ([], 0) T nt ↔ fullS c ([], 0) (L.map (·.2)) il T) ∧ putLeft c L il ([], 0) T nt = ilS c ([], 0) (L.map (·.2)) il T ∧ putTn c L il ([], 0) T nt = nt + 1 ∧ ∀ h ∈ L.map (·.2), h.2 ≠ nt + 1 := by
 have hs := hc.slots.1
 have hok : ∀ x ∈ L.map (·.2), keyOk c.slots x := fun x hx => by
   obtain ⟨y, hy, rfl⟩ := List.mem_map.1 hx
   exact hT.key y hy
 have hcons : ∀ k, heldBy c.slots (([], 0) :: L.map (·.2)) k ↔ heldBy c.slots (L.map (·.2)) k := fun k => by
   rw [heldBy_cons]
   exact ⟨fun h => h.elim (fun e => absurd e (on_nil _ _ 0)) id, .inr⟩
 have hp' : Pure c.slots c.vocab (([], 0) :: L.map (·.2)) il := by
   refine ⟨fun x hx => ?_, hp.whole, fun p hq hh => hp.out p hq ((hcons _).1 hh), hp.order, fun p hq q h1 h2 h3 => (hp.shut p hq q h1 h2 h3).imp id (hcons _).2⟩
   rcases List.mem_cons.1 hx with rfl | hx
   · exact ⟨by simp [keyOk], by simp, by simp⟩
   · exact hp.key x hx
 have hn := nUsed_nil c.slots (L.map (·.2)) 0 hs hok rfl
 obtain ⟨q1, q2, q3⟩ := put_same c hc L il ([], 0) (L.map (·.2)) T nt hp' (List.nil_prefix) (fun p => by rw [← held_whole c.slots hs _ hT.key]; exact (hcons _).symm) (by rw [hn, nUsed_ref c.slots hs _ nt hT hne]) (by simp) (by rw [hn]; exact hfree)
 refine ⟨q1, q2, ?_, fun h hh e => ?_⟩
 · unfold putTn
   rw [if_neg (fun hk => by have := (q3 hk.2).1; simp at this)]
 · obtain ⟨y, hy, rfl⟩ := List.mem_map.1 hh
   have := hT.le y hy
   omega
theorem chain_eq (s : Nat) (k : Key) (hs : 1 ≤ s) : chain s k = (wholesOf s k.1).map (fun p => (p, 0)) ++ (if k.1.length % s = 0 then [] else [k]) := by
 unfold chain wholesOf
 have h1 : s * (k.1.length / s) + k.1.length % s = k.1.length := Nat.div_add_mod _ _
 have h2 := Nat.mod_lt k.1.length (show 0 < s by omega)
 have low : ∀ i, i < k.1.length / s → (i + 1) * s ≤ k.1.length := fun i hi => by
   have : (i + 1) * s ≤ k.1.length / s * s := Nat.mul_le_mul_right _ hi
   have := Nat.div_mul_le_self k.1.length s
   omega
 by_cases e : k.1.length % s = 0
 · have en : (k.1.length + s - 1) / s = k.1.length / s := by
     rw [show k.1.length + s - 1 = (s - 1) + s * (k.1.length / s) by omega, Nat.add_mul_div_left _ _ (by omega), Nat.div_eq_of_lt (by omega)]
     omega
   rw [en, if_pos e, List.append_nil, List.map_map]
   apply List.map_congr_left
   intro i hi
   rw [if_pos (low i (List.mem_range.1 hi))]
   rfl
 · have en : (k.1.length + s - 1) / s = k.1.length / s + 1 := by
     rw [show k.1.length + s - 1 = (k.1.length % s - 1) + s * (k.1.length / s + 1) by rw [Nat.mul_add]; omega, Nat.add_mul_div_left _ _ (by omega), Nat.div_eq_of_lt (by omega)]
     omega
   rw [en, if_neg e, List.range_succ, List.map_append, List.map_map]
   congr 1
   · apply List.map_congr_left
     intro i hi
     rw [if_pos (low i (List.mem_range.1 hi))]
     rfl
   · simp only [List.map_cons, List.map_nil]
     rw [if_neg (by rw [Nat.add_mul, Nat.mul_comm]; omega)]
theorem leftOf_eq (s : Nat) (H : List Key) (k : Key) (hs : 1 ≤ s) (hk : keyOk s k) : leftOf s H k = (wholesOf s k.1).reverse.filter (fun p => ¬ heldBy s H (p, 0)) := by
 unfold leftOf
 rw [chain_eq s k hs, List.reverse_append, List.filterMap_append]
 have e1 : (if k.1.length % s = 0 then [] else [k]).reverse.filterMap (fun x : Key => if x.2 = 0 ∧ ¬ heldBy s H x then some x.1 else none) = [] := by
   by_cases e : k.1.length % s = 0
   · rw [if_pos e]; rfl
   · have h0 : k.2 ≠ 0 := fun h => e (hk.1 h)
     rw [if_neg e]
     simp [h0]
 rw [e1, List.nil_append, ← List.map_reverse, List.filterMap_map]
 generalize (wholesOf s k.1).reverse = l
 induction l with
 | nil => rfl
 | cons p l ih =>
   rw [List.filterMap_cons, List.filter_cons, ih]
   by_cases e : heldBy s H (p, 0)
   · simp [e]
   · simp [e]
theorem TokT.old {w : World} {v : Value} {T : List Nat} (h : TokT w v T) (h0 : 1 ≤ T.length) : okV (fun b => b < w.heap.size) v := by
 intro a n c e
 obtain ⟨a', c', e', _, _, q⟩ := h
 rw [e'] at e
 obtain ⟨b, off, cur, fr, ea, hb, _⟩ := q (by omega)
 subst ea
 cases e
 exact lt_blk hb
section
variable {ok ok' : Nat → Prop} {w w' : World} {Y d : Nat} {c : Cfg} {L : List (Int × Key)} {il : List (List Nat)} {nt : Nat} {vL vI : Value}
theorem RefI.carry (h : RefI ok w Y d c L il nt vL vI) (hY : w'.heap[Y]? = w.heap[Y]?) (hL : ∀ k, vL.ownBlock = some k → w'.heap[k]? = w.heap[k]?) (hI : ∀ a n cp, vI = .slice (some a) n cp → w'.heap[a.block]? = w.heap[a.block]?) (hd : RefDec w' d c) (hk : KeepOk ok w w') (hm : ∀ b, ok b → ok' b) : RefI ok' w' Y d c L il nt vL vI :=
 ⟨hY.trans h.obj, h.seqs.stays hL hk hm, h.idle.stays hI hk hm, hd, h.tails, h.many, h.len, h.toks, h.ilen, h.ilne⟩
theorem RefI.okmono (h : RefI ok w Y d c L il nt vL vI) (hm : ∀ b, ok b → ok' b) : RefI ok' w Y d c L il nt vL vI := h.carry rfl (fun _ _ => rfl) (fun _ _ _ _ => rfl) h.dec (fun _ _ _ _ h => h) hm
theorem RefI.old (h : RefI ok w Y d c L il nt vL vI) : RefI (fun b => b < w.heap.size) w Y d c L il nt vL vI := by
 refine ⟨h.obj, ?_, ?_, h.dec, h.tails, h.many, h.len, h.toks, h.ilen, h.ilne⟩
 · obtain ⟨F, h1, h2⟩ := h.seqs
   exact ⟨F, h1, fun i hi => ⟨(h2 i hi).1, ⟨(h2 i hi).2.1.1, (h2 i hi).2.1.1.old (h.lenAt i hi).1⟩, (h2 i hi).2.2⟩⟩
 · rcases h.idle with q | ⟨b, off, cap, cur, e, q1, q2, q3, q4, q5⟩
   · exact .inl q
   · refine .inr ⟨b, off, cap, cur, e, q1, q2, q3, q4, fun i hi => ?_⟩
     obtain ⟨v, r1, r2, _⟩ := q5 i hi
     refine ⟨v, r1, r2, r2.old ?_⟩
     have hm : il.getD i [] ∈ il := by rw [List.getD_eq_getElem?_getD, List.getElem?_eq_getElem hi]; exact List.getElem_mem hi
     exact (h.ilne _ hm).1
theorem RefI.own (h : RefI ok w Y d c L il nt vL vI) {k : Nat} (hk : vL.ownBlock = some k) : ∃ cur, w.heap[k]? = some (.cells cur 113 (0, 0)) := by
 obtain ⟨G, ⟨h1, ⟨h2, _⟩ | ⟨g, cap, cur, e', hg, hh, rest⟩⟩, h3⟩ := h.seqs
 · rw [h2] at hk; cases hk
 · rw [e'] at hk; injection hk with hk; subst hk; exact ⟨_, hh⟩
def RS (Y : Nat) (vL vI : Value) (k : Nat) : Prop := k = Y ∨ vL.ownBlock = some k ∨ ∃ a n cp, vI = .slice (some a) n cp ∧ k = a.block
theorem RefI.kind (h : RefI ok w Y d c L il nt vL vI) {k : Nat} (hk : RS Y vL vI k) : ∃ cur e, w.heap[k]? = some (.cells cur e (0, 0)) ∧ (e = 85 ∨ e = 113 ∨ e = 36) := by
 rcases hk with rfl | hk | ⟨a, n, cp, e, rfl⟩
 · exact ⟨_, _, h.obj, .inl rfl⟩
 · obtain ⟨cur, q⟩ := h.own hk
   exact ⟨_, _, q, .inr (.inl rfl)⟩
 · obtain ⟨cur, q⟩ := h.idle.own e
   exact ⟨_, _, q, .inr (.inr rfl)⟩
theorem RefI.keep (h : RefI ok w Y d c L il nt vL vI) (h1 : KeepT 85 w w') (h2 : KeepT 113 w w') (h3 : KeepT 36 w w') (h4 : KeepT 87 w w') (h5 : KeepT 3 w w') : RefI ok w' Y d c L il nt vL vI :=
 h.carry (by rw [h1 _ _ _ h.obj, h.obj]) (fun k hk => by obtain ⟨cur, q⟩ := h.own hk; rw [h2 _ _ _ q, q]) (fun a n cp e => by obtain ⟨cur, q⟩ := h.idle.own e; rw [h3 _ _ _ q, q]) (h.dec.keep h4 h5) (KeepOk.of h5) (fun _ h => h)
end
end Go.Proofs.YtlmflighkkgikaaGreat
