import Derived.Shelf.SlMaps.Clone
import Derived.Test.YtlmflighkkgikaaP10
import Derived.Test.YtlmflighkkgikaaP16
import Derived.Test.YtlmflighkkgikaaP17
import Derived.Test.YtlmflighkkgikaaP18
import Derived.Test.YtlmflighkkgikaaP32
import Derived.Test.YtlmflighkkgikaaP33

namespace Go.Proofs.Ytlmflighkkgikaa

end Go.Proofs.Ytlmflighkkgikaa
namespace Go.Proofs.Ytlmflighkkgikaa
open Go.RowKit
attribute [local go_sem ↓] Go.wp_at_zero Go.wp_at_succ
def assoc (L : List (Int × Key)) (id : Int) : Option Key := (L.find? (fun x => decide (x.1 = id))).map (·.2)
theorem assoc_nil (id : Int) : assoc [] id = none := rfl
theorem assoc_cons (x : Int × Key) (L : List (Int × Key)) (id : Int) : assoc (x :: L) id = if x.1 = id then some x.2 else assoc L id := by
 unfold assoc
 by_cases e : x.1 = id
 · simp [e]
 · simp [e]
theorem assoc_append (A C : List (Int × Key)) (id : Int) : assoc (A ++ C) id = (assoc A id).or (assoc C id) := by
 induction A with
 | nil => simp [assoc_nil]
 | cons x A ih =>
   rw [List.cons_append, assoc_cons, assoc_cons, ih]
   by_cases e : x.1 = id <;> simp [e]
theorem assoc_none {L : List (Int × Key)} {id : Int} : assoc L id = none ↔ ∀ x ∈ L, x.1 ≠ id := by
 induction L with
 | nil => simp [assoc_nil]
 | cons x L ih =>
   rw [assoc_cons]
   by_cases e : x.1 = id
   · simp [e]
   · simp [e, ih]
theorem assoc_split {L : List (Int × Key)} {id : Int} {k : Key} (h : assoc L id = some k) : ∃ L1 L2, L = L1 ++ (id, k) :: L2 ∧ assoc L1 id = none := by
 induction L with
 | nil => cases h
 | cons x L ih =>
   rw [assoc_cons] at h
   by_cases e : x.1 = id
   · rw [if_pos e] at h
     injection h with h
     exact ⟨[], L, by simp [← e, ← h], rfl⟩
   · rw [if_neg e] at h
     obtain ⟨L1, L2, rfl, q⟩ := ih h
     exact ⟨x :: L1, L2, rfl, by rw [assoc_cons, if_neg e]; exact q⟩
def farS (s : Nat) (H : List Key) (il : List (List Nat)) (T : List Nat) : List Nat := farOf (fun p => if live s H il (p, 0) then some 0 else none) T
theorem farTo_congr {V V' : List Nat → Option Nat} (h : ∀ p, (V p).isSome = (V' p).isSome) (T : List Nat) (n : Nat) : farTo V T n = farTo V' T n := by
 induction n with
 | zero => rfl
 | succ n ih => unfold farTo; rw [h, ih]
theorem farS_eq {s : Nat} {H : List Key} {il : List (List Nat)} {B : Key → Option Nat} (hd : ∀ k, B k ≠ none ↔ live s H il k) (T : List Nat) : farOf (fun p => B (p, 0)) T = farS s H il T := by
 refine farTo_congr (fun p => ?_) T _
 have := hd (p, 0)
 by_cases e : live s H il (p, 0)
 · rw [if_pos e]
   obtain ⟨b, hb⟩ := some_of_ne (this.2 e)
   rw [hb]; rfl
 · rw [if_neg e]
   rcases none_or (B (p, 0)) with q | ⟨b, q⟩
   · rw [q]
   · exact absurd (this.1 (by rw [q]; simp)) e
def freeS (c : Cfg) (H : List Key) (il : List (List Nat)) : Nat := c.blocks - il.length - nUsed c.slots H
def needS (c : Cfg) (H : List Key) (il : List (List Nat)) (T : List Nat) : Nat := nbOf c.slots (T.length - (farS c.slots H il T).length)
def upS (c : Cfg) (H : List Key) (il : List (List Nat)) (T : List Nat) : List (List Nat) := notUp (farS c.slots H il T) il
def fullS (c : Cfg) (k0 : Key) (H0 : List Key) (il : List (List Nat)) (T : List Nat) : Prop :=
 (freeS c (k0 :: H0) il : Int) + (upS c (k0 :: H0) il T).length < (needS c (k0 :: H0) il T : Int) - ownTail (users c.slots (k0 :: H0)) k0
instance (c : Cfg) (k0 : Key) (H0 : List Key) (il : List (List Nat)) (T : List Nat) : Decidable (fullS c k0 H0 il T) := by unfold fullS; infer_instance
def ilS (c : Cfg) (k0 : Key) (H0 : List Key) (il : List (List Nat)) (T : List Nat) : List (List Nat) :=
 (upS c (k0 :: H0) il T).drop (evN ((needS c (k0 :: H0) il T : Int) - ownTail (users c.slots (k0 :: H0)) k0 - freeS c (k0 :: H0) il) (upS c (k0 :: H0) il T))
structure HoardI (F ok : Nat → Prop) (w : World) (g : Parts) (c : Cfg) (L : List (Int × Key)) (il : List (List Nat)) : Prop where
 ex : ∃ B free, StoreI F ok w g c (L.map (·.2)) il B free ∧ MapV Try.prog 3 w g.SM L.length (fun id => (assoc L id).map fun k => blkV (B k))
 ids : (L.map (·.1)).Nodup
 ne : ∀ x ∈ L, x.2.1 ≠ []
 few : L.length ≤ 8
 sm : ¬ F g.SM ∧ g.SM < w.heap.size
theorem HoardI.below {F ok : Nat → Prop} {w w' : World} {g : Parts} {c : Cfg} {L : List (Int × Key)} {il : List (List Nat)} (h : HoardI F ok w g c L il) (hb : Below w.heap.size w w') : HoardI F ok w' g c L il := by
 obtain ⟨B, free, h1, h2⟩ := h.ex
 exact ⟨⟨B, free, h1.below hb, h2.keep (hb.block _ h2.lt)⟩, h.ids, h.ne, h.few, h.sm.1, Nat.lt_of_lt_of_le h.sm.2 hb.size⟩
theorem StoreI.freeS_eq {F ok : Nat → Prop} {w : World} {g : Parts} {c : Cfg} {H : List Key} {il : List (List Nat)} {B : Key → Option Nat} {free : List Nat} (h : StoreI F ok w g c H il B free) : free.length = freeS c H il := by
 have := h.count
 unfold freeS
 omega
def HPut (F ok : Nat → Prop) (w : World) (g : Parts) (c : Cfg) (L' : List (Int × Key)) (il : List (List Nat)) (k0 : Key) (H0 : List Key) (T : List Nat) (e : Ending) (w' : World) : Prop :=
 (fullS c k0 H0 il T ∧ e = .returned (.int .i64 6) ∧ Below w.heap.size w w') ∨
 (¬ fullS c k0 H0 il T ∧ e = .returned (.int .i64 0) ∧ Moves (fun k => F k ∨ k = g.SM) w w' ∧ HoardI (grow F w) ok w' g c L' (ilS c k0 H0 il T))
theorem PutTo.hput {F ok : Nat → Prop} {w w' : World} {g : Parts} {c : Cfg} {H0 : List Key} {il : List (List Nat)} {B : Key → Option Nat} {free : List Nat} {k0 : Key} {id : Int} {T : List Nat} {tn nL : Nat} {M : Int → Option Value} {e : Ending} {L' : List (Int × Key)} (h : PutTo F ok w g c H0 il B free k0 id T tn nL M e w') (hS : StoreI F ok w g c (k0 :: H0) il B free)
   (hL : ∀ B' free', StoreI (grow F w) ok w' g c (endKey c.slots T tn :: H0) (ilS c k0 H0 il T) B' free' → MapV Try.prog 3 w' g.SM (if M id = none then nL + 1 else nL) (fun y => if y = id then some (blkV (B' (endKey c.slots T tn))) else M y) → (∀ h ∈ H0, h.1 ≠ [] → B' h = B h) → Moves (fun k => F k ∨ k = g.SM) w w' → HoardI (grow F w) ok w' g c L' (ilS c k0 H0 il T)) :
   HPut F ok w g c L' il k0 H0 T e w' := by
 have e1 := farS_eq hS.dom T
 have e2 : putNeed c.slots B T = needS c (k0 :: H0) il T := by unfold putNeed needS; rw [e1]
 have e3 : putUp B T il = upS c (k0 :: H0) il T := by unfold putUp upS; rw [e1]
 have e4 := hS.freeS_eq
 unfold PutTo at h
 rw [e2, e3, e4] at h
 rcases h with ⟨h1, h2, h3⟩ | ⟨h1, h2, h3, B', free', h4, h5, h6⟩
 · exact .inl ⟨h1, h2, h3⟩
 · refine .inr ⟨fun hf => ?_, h2, h3, hL B' free' h4 h5 h6 h3⟩
   unfold fullS at hf
   omega
theorem mem_map_snd {L : List (Int × Key)} {x : Int × Key} (h : x ∈ L) : x.2 ∈ L.map (·.2) := List.mem_map.2 ⟨x, h, rfl⟩
theorem not_grow_sm {F : Nat → Prop} {w : World} {g : Parts} (h : ¬ F g.SM ∧ g.SM < w.heap.size) : ¬ grow F w g.SM := fun hg => hg.elim h.1 (fun hle => by have := h.2; omega)
theorem hput_new (F ok : Nat → Prop) (g : Parts) (c : Cfg) (hc : c.ok) (L : List (Int × Key)) (il : List (List Nat)) (id : Int) (T : List Nat) (vm : Value) (tn : Nat) (w : World) (h : HoardI F ok w g c L il) (hid : -9223372036854775808 ≤ id ∧ id ≤ 9223372036854775807) (hno : assoc L id = none) (h8 : L.length < 8) (hT0 : T ≠ []) (hlen : T.length ≤ 40) (htok : ∀ t ∈ T, t < c.vocab)
   (hvm : Ints w vm T.length (tkI T)) (htn : tn ≠ 0 ∧ ∀ h ∈ L.map (·.2), h.2 ≠ tn) (hok : ∀ b, w.heap.size ≤ b → ok b) :
   Calls Try.prog 31 #[.pointer (some ⟨g.X, 0, none⟩), .int .i64 id, vm, .slice none 0 0] w fun e w' => HPut F ok w g c (L ++ [(id, endKey c.slots T tn)]) il ([], 0) (L.map (·.2)) T e w' := by
 obtain ⟨B, free, hS, hM⟩ := h.ex
 have hS0 := hS.come hc (by simp; omega)
 have hB0 : B ([], 0) = none := hS.nil rfl
 refine (put_any F ok g c hc (L.map (·.2)) il B free ([], 0) id T vm (.slice none 0 0) 0 tn L.length _ w hS0 hM (by rw [hno, hB0]; rfl) hid (by have := h.few; omega) hT0 (by simpa using hlen) htok hvm (.inl ⟨rfl, rfl⟩) (by omega) h.sm htn (by simp; omega) hok).mono ?_
 intro e w' hp
 refine PutTo.hput hp hS0 (fun B' free' h4 h5 h6 h7 => ?_)
 refine ⟨⟨B', free', h4.perm hc ?_, ?_⟩, ?_, fun x hx => ?_, by simp; omega, not_grow_sm h.sm, Nat.lt_of_lt_of_le h.sm.2 h7.size⟩
 · rw [List.map_append]
   exact (List.perm_append_singleton _ _).symm
 · have e1 : ((assoc L id).map fun k => blkV (B k)) = none := by rw [hno]; rfl
   rw [if_pos e1] at h5
   rw [List.length_append, List.length_singleton]
   have e2 : (fun y => if y = id then some (blkV (B' (endKey c.slots T tn))) else (assoc L y).map fun k => blkV (B k)) = fun y => (assoc (L ++ [(id, endKey c.slots T tn)]) y).map fun k => blkV (B' k) := by
     funext y
     rw [assoc_append, assoc_cons, assoc_nil]
     by_cases e : y = id
     · rw [if_pos e, e, hno, if_pos rfl]; rfl
     · rw [if_neg e, if_neg (fun e' => e e'.symm)]
       cases hy : assoc L y with
       | none => rfl
       | some k =>
         obtain ⟨L1, L2, eL, _⟩ := assoc_split hy
         have hm : (y, k) ∈ L := by rw [eL]; simp
         show some (blkV (B k)) = some (blkV (B' k))
         rw [h6 k (mem_map_snd hm) (h.ne _ hm)]
   rw [e2] at h5
   exact h5
 · rw [List.map_append, List.nodup_append]
   refine ⟨h.ids, by simp, fun a ha b hb e => ?_⟩
   simp only [List.map_cons, List.map_nil, List.mem_singleton] at hb
   subst hb e
   obtain ⟨x, hx, e'⟩ := List.mem_map.1 ha
   exact assoc_none.1 hno x hx e'
 · rcases List.mem_append.1 hx with hx | hx
   · exact h.ne x hx
   · rw [List.mem_singleton] at hx
     subst hx
     exact hT0
theorem isno_any (X : Nat) (c : Cfg) (hc : c.ok) (x : Int) (w : World) (h5 : w.cell? ⟨X, 5, none⟩ = some (.int .i64 c.vocab)) :
   Calls Try.prog 30 #[.pointer (some ⟨X, 0, none⟩), .int .i64 x] w fun e w' => e = .returned (.bool (!decide (0 ≤ x ∧ x ≤ (c.vocab : Int) - 1))) ∧ w' = w := by
 obtain ⟨v1, v2⟩ := hc.vocab
 go_enter Try.func30, Try.ntmps30
 go_wp2_with fail
 refine Calls_use (within_any _ _ _ _) ?_
 go_wp2
 go_ret
 exact ⟨ret_bool (by rw [Bool.eq_iff_iff]; simp), rfl⟩
set_option maxRecDepth 100000 in
set_option maxHeartbeats 1000000 in
theorem indexfunc_any (X n : Nat) (c : Cfg) (hc : c.ok) (vt : Value) (f : Nat → Int) (w : World) (h5 : w.cell? ⟨X, 5, none⟩ = some (.int .i64 c.vocab)) (ht : Ints w vt n f) :
   Calls Try.prog 47 #[vt, .func (.func 30) #[.pointer (some ⟨X, 0, none⟩)] #[]] w fun e w' =>
     ((∃ k : Nat, e = .returned (.int .i64 k) ∧ k < n ∧ badTok c.vocab (f k)) ∨ e = .returned (.int .i64 (-1)) ∧ (∀ j, j < n → ¬ badTok c.vocab (f j))) ∧ w' = w := by
 obtain ⟨aa, ca, rfl, ha1, ha2, ha3⟩ := ht
 unfold maxLen at ha2
 have Ha3 := hide ha3
 clear ha3
 go_enter Try.func47, Try.ntmps47
 go_wp2
 go_loop [8] (fun i => ∃ k : Nat, k ≤ n ∧ i = .int .i64 k ∧ Hid (∀ j, j < k → ¬ badTok c.vocab (f j))) (fun i => n - (intOf i).toNat)
 case atStart => exact ⟨0, Nat.zero_le _, rfl, fun j hj => absurd hj (by omega)⟩
 case round =>
   obtain ⟨k, hk, rfl, Hne⟩ := hrel
   by_cases hlt : k < n
   · obtain ⟨b1, o1, rfl, hlb1, hc1⟩ := Ha3.out (by omega)
     have c1 := hc1 k hlt
     clear hc1
     generalize hx : f k = x at c1
     have Hx := hide hx
     clear hx
     go_wp2_with fail
     refine Calls_use (isno_any X c hc x w h5) ?_
     by_cases hb : 0 ≤ x ∧ x ≤ (c.vocab : Int) - 1
     · have hd : (!decide (0 ≤ x ∧ x ≤ (c.vocab : Int) - 1)) = false := by simp [hb]
       rw [hd]
       have Hb := hide hb
       clear hb hd
       go_wp2
       go_round
       case rel =>
         refine ⟨k + 1, by omega, by go_num, fun j hj => ?_⟩
         by_cases e : j = k
         · subst e; rw [Hx.out]; have := Hb.out; unfold badTok; omega
         · exact Hne.out j (by omega)
       case measure => simp [intOf]; omega
     · have hd : (!decide (0 ≤ x ∧ x ≤ (c.vocab : Int) - 1)) = true := by simp; omega
       rw [hd]
       have Hb := hide hb
       clear hb hd
       go_wp2
       go_ret
       exact ⟨.inl ⟨k, rfl, hlt, by rw [Hx.out]; have := Hb.out; unfold badTok; omega⟩, rfl⟩
   · go_wp2
     go_ret
     exact ⟨.inr ⟨rfl, fun j hj => Hne.out j (by omega)⟩, rfl⟩
theorem containsfunc_any (X n : Nat) (c : Cfg) (hc : c.ok) (vt : Value) (f : Nat → Int) (w : World) (h5 : w.cell? ⟨X, 5, none⟩ = some (.int .i64 c.vocab)) (ht : Ints w vt n f) :
   Calls Try.prog 29 #[vt, .func (.func 30) #[.pointer (some ⟨X, 0, none⟩)] #[]] w fun e w' =>
     (e = .returned (.bool true) ∧ (∃ j, j < n ∧ badTok c.vocab (f j)) ∨ e = .returned (.bool false) ∧ (∀ j, j < n → ¬ badTok c.vocab (f j))) ∧ w' = w := by
 have hix := indexfunc_any X n c hc vt f w h5 ht
 have Hix := hide hix
 clear hix
 go_enter Try.func29, Try.ntmps29
 go_wp2_with fail
 refine Hix.out.mono ?_
 rintro e w1 ⟨⟨k, rfl, hk, hb⟩ | ⟨rfl, hn⟩, rfl⟩
 · have Hb := hide hb
   clear hb
   go_wp2
   go_ret
   exact ⟨.inl ⟨rfl, k, hk, Hb.out⟩, rfl⟩
 · have Hn := hide hn
   clear hn
   go_wp2
   go_ret
   exact ⟨.inr ⟨rfl, Hn.out⟩, rfl⟩
set_option maxRecDepth 100000 in
set_option maxHeartbeats 1000000 in
theorem isconfig_any (r : Raw) (w : World) :
   Calls Try.prog 44 #[r.agg] w fun e w' => e = .returned (.bool (@decide r.right r.dec)) ∧ Below w.heap.size w w' := by
 unfold Raw.agg
 go_enter Try.func44, Try.ntmps44
 go_wp2_with (go_at_call 48; refine Calls_use (within_any _ _ _ _) ?_)
 all_goals go_ret
 all_goals refine ⟨ret_bool ?_, (Below.refl _ _).alloc (Nat.le_refl _) _⟩
 all_goals rw [Bool.eq_iff_iff]
 all_goals simp only [decide_eq_true_eq, Bool.and_eq_true, Bool.false_eq_true, false_iff]
 all_goals unfold Raw.right
 all_goals first | omega | (simp at *; omega) | (simp at *; intros; omega)
end Go.Proofs.Ytlmflighkkgikaa
