import Derived.Test.YtlmflighkkgikaaP40
import Derived.Test.YtlmflighkkgikaaP41

namespace Go.Proofs.Ytlmflighkkgikaa
open Go.RowKit
structure HD where
 g : Parts
 c : Cfg
 L : List (Int × Key)
 il : List (List Nat)
 F : Nat → Prop
def HD.S (p : HD) (k : Nat) : Prop := p.F k ∨ k = p.g.SM
structure HeldK (B0 : Nat) (w : World) (p : HD) : Prop where
 cok : p.c.ok
 held : HoardI p.F (fun _ => True) w p.g p.c p.L p.il
 lo : ∀ k, p.S k → B0 ≤ k ∧ k < w.heap.size
structure ActedK (w w' : World) (p p' : HD) : Prop where
 g : p'.g = p.g
 c : p'.c = p.c
 S : ∀ k, p'.S k → p.S k ∨ w.heap.size ≤ k
 moves : Moves p.S w w'
theorem HeldK.below {B0 : Nat} {w w' : World} {p : HD} (h : HeldK B0 w p) (hb : Below w.heap.size w w') : HeldK B0 w' p :=
 ⟨h.cok, h.held.below hb, fun k hk => ⟨(h.lo k hk).1, Nat.lt_of_lt_of_le (h.lo k hk).2 hb.size⟩⟩
theorem HeldK.other {B0 : Nat} {w w' : World} {p q : HD} (h : HeldK B0 w p) (hm : Moves q.S w w') (hd : ∀ k, p.S k → ¬ q.S k) : HeldK B0 w' p :=
 ⟨h.cok, h.held.only hm.only (fun k _ hk => .inl ⟨fun hf => hd k (.inl hf) hk, fun e => hd k (.inr e) hk⟩) (h.held.model.keep (hm.kept _ (by unfold mutT; decide)) (hm.kept _ (by unfold mutT; decide)) (hm.kept _ (by unfold mutT; decide)) (hm.kept _ (by unfold mutT; decide))) (hm.kept _ (by unfold mutT; decide)) (fun b cur fr _ hh => hm.kept 3 (by unfold mutT; decide) b cur fr hh), fun k hk => ⟨(h.lo k hk).1, Nat.lt_of_lt_of_le (h.lo k hk).2 hm.size⟩⟩
theorem ActedK.refl (w : World) (p : HD) : ActedK w w p p := ⟨rfl, rfl, fun _ hk => .inl hk, Moves.refl _ _⟩
theorem ActedK.below {w w' : World} {p : HD} (hb : Below w.heap.size w w') : ActedK w w' p p := ⟨rfl, rfl, fun _ hk => .inl hk, Moves.of_below hb⟩
theorem ActedK.trans {w w' w'' : World} {p p' p'' : HD} (h : ActedK w w' p p') (h' : ActedK w' w'' p' p'') : ActedK w w'' p p'' :=
 ⟨h'.g.trans h.g, h'.c.trans h.c, fun k hk => (h'.S k hk).elim (h.S k) (fun q => .inr (Nat.le_trans h.moves.size q)), h.moves.trans (h'.moves.mono (fun k _ hk => h.S k hk))⟩
theorem HeldK.acted {B0 : Nat} {w w' : World} {p : HD} {ok : Nat → Prop} {L' : List (Int × Key)} {il' : List (List Nat)} (h : HeldK B0 w p) (hB : B0 ≤ w.heap.size) (hm : Moves (fun k => p.F k ∨ k = p.g.SM) w w') (hh : HoardI (grow p.F w) ok w' p.g p.c L' il') :
   ∃ p', HeldK B0 w' p' ∧ ActedK w w' p p' ∧ p'.L = L' ∧ p'.il = il' := by
 have hsm := h.held.sm
 refine ⟨⟨p.g, p.c, L', il', fun k => p.F k ∨ (w.heap.size ≤ k ∧ k < w'.heap.size)⟩, ⟨h.cok, ?_, ?_⟩, ⟨rfl, rfl, ?_, hm⟩, rfl, rfl⟩
 · have h1 := hh.sub (F' := fun k => p.F k ∨ (w.heap.size ≤ k ∧ k < w'.heap.size)) (fun k hk hg => hg.imp id (fun q => ⟨q, hk⟩)) (fun q => q.elim hsm.1 (fun q => by have := hsm.2; omega))
   exact h1.oks (fun hc => CellI.mono hc (fun _ _ => trivial))
 · intro k hk
   rcases hk with (q | q) | q
   · have := h.lo k (.inl q); have := hm.size; omega
   · omega
   · have := h.lo k (.inr q); have := hm.size; omega
 · intro k hk
   rcases hk with (q | q) | q
   · exact .inl (.inl q)
   · exact .inr q.1
   · exact .inl (.inr q)
theorem apart_acted {B0 : Nat} {w w' : World} {p q q' : HD} (h : HeldK B0 w p) (hq : ActedK w w' q q') (hd : ∀ k, p.S k → ¬ q.S k) : HeldK B0 w' p ∧ ∀ k, p.S k → ¬ q'.S k :=
 ⟨h.other hq.moves hd, fun k hk hk' => (hq.S k hk').elim (hd k hk) (fun hle => by have := (h.lo k hk).2; omega)⟩
theorem fresh_tn (L : List (Int × Key)) : ∃ tn : Nat, tn ≠ 0 ∧ ∀ h ∈ L.map (·.2), h.2 ≠ tn := by
 have : ∃ m : Nat, ∀ h ∈ L.map (·.2), h.2 ≤ m := by
   induction L with
   | nil => exact ⟨0, fun h hh => by simp at hh⟩
   | cons x L ih =>
     obtain ⟨m, hm⟩ := ih
     refine ⟨m + x.2.2, fun h hh => ?_⟩
     rw [List.map_cons, List.mem_cons] at hh
     rcases hh with rfl | hh
     · omega
     · have := hm h hh; omega
 obtain ⟨m, hm⟩ := this
 exact ⟨m + 1, by omega, fun h hh => by have := hm h hh; omega⟩
def FreshT (L : List (Int × Key)) (tn : Nat) : Prop := tn ≠ 0 ∧ ∀ h ∈ L.map (·.2), h.2 ≠ tn
def StillK (p p' : HD) : Prop := p'.L = p.L ∧ p'.il = p.il
section
variable {B0 : Nat} {w : World} {p : HD}
def CreatedK (B0 : Nat) (w : World) (p : HD) (id : Int) (n : Nat) (f : Nat → Int) (w' : World) : Prop :=
 ∃ p', HeldK B0 w' p' ∧ ActedK w w' p p' ∧ ((createS p.c p.L p.il id n f ≠ 0 ∧ StillK p p') ∨ (createS p.c p.L p.il id n f = 0 ∧ ∃ tn, FreshT p.L tn ∧ p'.L = p.L ++ [(id, endKey p.c.slots (natsOf n f) tn)] ∧ p'.il = ilS p.c ([], 0) (p.L.map (·.2)) p.il (natsOf n f)))
theorem kcreate (h : HeldK B0 w p) (hB : B0 ≤ w.heap.size) (id : Int) (n : Nat) (f : Nat → Int) (vt : Value) (hid : -9223372036854775808 ≤ id ∧ id ≤ 9223372036854775807) (ht : Ints w vt n f) :
   Calls Try.prog 13 #[.pointer (some ⟨p.g.X, 0, none⟩), .int .i64 id, vt] w fun e w' => e = .returned (.int .i64 (createS p.c p.L p.il id n f)) ∧ CreatedK B0 w p id n f w' := by
 obtain ⟨tn, htn⟩ := fresh_tn p.L
 refine (hcreate_any p.F (fun _ => True) p.g p.c h.cok p.L p.il id n f vt tn w h.held hid ht htn (fun _ _ => trivial)).mono ?_
 rintro e w' ⟨rfl, ⟨h0, hb⟩ | ⟨h0, hm, hh⟩⟩
 · exact ⟨rfl, p, h.below hb, .below hb, .inl ⟨h0, rfl, rfl⟩⟩
 · obtain ⟨p', a, b, c, d⟩ := h.acted hB hm hh
   exact ⟨rfl, p', a, b, .inr ⟨h0, tn, htn, c, d⟩⟩
def FreedK (B0 : Nat) (w : World) (p : HD) (id : Int) (code : Nat) (w' : World) : Prop :=
 ∃ p', HeldK B0 w' p' ∧ ActedK w w' p p' ∧ ((assoc p.L id = none ∧ code = 3 ∧ StillK p p') ∨
   ∃ k0 L1 L2, p.L = L1 ++ (id, k0) :: L2 ∧ assoc L1 id = none ∧ code = 0 ∧ p'.L = L1 ++ L2 ∧ p'.il = p.il ++ leftOf p.c.slots ((L1 ++ L2).map (·.2)) k0)
theorem kfree (h : HeldK B0 w p) (hB : B0 ≤ w.heap.size) (id : Int) (hid : -9223372036854775808 ≤ id ∧ id ≤ 9223372036854775807) :
   Calls Try.prog 19 #[.pointer (some ⟨p.g.X, 0, none⟩), .int .i64 id] w fun e w' => ∃ code : Nat, e = .returned (.int .i64 code) ∧ FreedK B0 w p id code w' := by
 cases hk : assoc p.L id with
 | none =>
   refine (hfree_none p.F (fun _ => True) p.g p.c p.L p.il id w h.held hid hk).mono ?_
   rintro e w' ⟨rfl, rfl⟩
   exact ⟨3, rfl, p, h, .refl _ _, .inl ⟨hk, rfl, rfl, rfl⟩⟩
 | some k0 =>
   obtain ⟨L1, L2, eL, h1⟩ := assoc_split hk
   have hh := h.held
   rw [eL] at hh
   refine (hfree_some p.F (fun _ => True) p.g p.c h.cok L1 L2 p.il id k0 w hh hid (by rw [← eL]; exact hk)).mono ?_
   rintro e w' ⟨rfl, hm, hh'⟩
   obtain ⟨p', a, b, c, d⟩ := h.acted hB hm hh'
   exact ⟨0, rfl, p', a, b, .inr ⟨k0, L1, L2, eL, h1, rfl, c, d⟩⟩
theorem kevict (h : HeldK B0 w p) (hB : B0 ≤ w.heap.size) (n : Int) :
   Calls Try.prog 27 #[.pointer (some ⟨p.g.X, 0, none⟩), .int .i64 n] w fun e w' => e = .returned (.int .i64 (evN n p.il)) ∧ ∃ p', HeldK B0 w' p' ∧ ActedK w w' p p' ∧ p'.L = p.L ∧ p'.il = p.il.drop (evN n p.il) := by
 refine (hevict_any p.F (fun _ => True) p.g p.c h.cok p.L p.il n w h.held).mono ?_
 rintro e w' ⟨rfl, hm, hh⟩
 obtain ⟨p', a, b, c, d⟩ := h.acted hB (hm.mono (fun _ _ hk => .inl hk)) hh
 exact ⟨rfl, p', a, b, c, d⟩
theorem kstats (h : HeldK B0 w p) :
   Calls Try.prog 18 #[.pointer (some ⟨p.g.X, 0, none⟩)] w fun e w' => e = .returned (.agg #[.int .i64 (freeS p.c (p.L.map (·.2)) p.il), .int .i64 p.il.length, .int .i64 (nUsed p.c.slots (p.L.map (·.2)))]) ∧ Below w.heap.size w w' :=
 hstats_any p.F (fun _ => True) p.g p.c h.cok p.L p.il w h.held
end
end Go.Proofs.Ytlmflighkkgikaa
