import Derived.Test.YtlmflighkkgikaaP43
import Derived.Test.YtlmflighkkgikaaP44

namespace Go.Proofs.Ytlmflighkkgikaa
open Go.RowKit
def idsK (L : List (Int × Key)) : Prop := ∀ x ∈ L, 0 ≤ x.1 ∧ x.1 < 5
abbrev TM := Int → Option (List Nat)
def updM (m : TM) (id : Int) (o : Option (List Nat)) : TM := fun k => if k = id then o else m k
structure OutM where
 code : Nat
 out : List Nat
 map : TM
def stepM (c : Cfg) (m : TM) (a : ActD) : OutM :=
 if pickI a.K 10 ≤ 2 then
   match m (pickI a.A 5) with
   | some _ => ⟨2, [], m⟩
   | none => if min a.n 9 = 0 then ⟨1, [], m⟩ else ⟨0, [], updM m (pickI a.A 5) (some (natsOf (min a.n 9) (fun j => pickI (a.f j) c.vocab)))⟩
 else if pickI a.K 10 ≤ 4 then
   match m (pickI a.A 5) with
   | none => ⟨3, [], m⟩
   | some t => if 40 < t.length + min a.n 4 then ⟨5, [], m⟩ else ⟨0, [], updM m (pickI a.A 5) (some (t ++ natsOf (min a.n 4) (fun j => pickI (a.f j) c.vocab)))⟩
 else if pickI a.K 10 ≤ 6 then
   match m (pickI a.A 5) with
   | none => ⟨3, [], m⟩
   | some t => if 40 < (t.length : Int) + pickI a.B 5 then ⟨5, [], m⟩ else ⟨0, (goTo c t (pickI a.B 5).toNat).drop t.length, updM m (pickI a.A 5) (some (goTo c t (pickI a.B 5).toNat))⟩
 else if pickI a.K 10 = 7 then
   match m (pickI a.A 5) with
   | none => ⟨3, [], m⟩
   | some t => match m (pickI a.B 5) with
     | some _ => ⟨2, [], m⟩
     | none => ⟨0, [], updM m (pickI a.B 5) (some t)⟩
 else if pickI a.K 10 = 8 then
   match m (pickI a.A 5) with
   | none => ⟨3, [], m⟩
   | some _ => ⟨0, [], updM m (pickI a.A 5) none⟩
 else ⟨0, [], m⟩
def FullK (p : HD) (a : ActD) : Prop :=
 (pickI a.K 10 ≤ 2 ∧ p.c.blocks < nbSum p.c.slots (p.L.map (·.2)) + nbOf p.c.slots (min a.n 9)) ∨
 (2 < pickI a.K 10 ∧ pickI a.K 10 ≤ 6 ∧ ∃ k0 L1 L2, p.L = L1 ++ (pickI a.A 5, k0) :: L2 ∧ assoc L1 (pickI a.A 5) = none ∧ p.c.blocks < nbSum p.c.slots ((L1 ++ L2).map (·.2)) + nbOf p.c.slots (k0.1.length + if pickI a.K 10 ≤ 4 then min a.n 4 else (pickI a.B 5).toNat))
structure DidK (w' : World) (p p' : HD) (a : ActD) (code : Nat) (v : Value) : Prop where
 ids : idsK p'.L
 still : code ≠ 0 → StillK p p'
 said : (code = 6 ∧ FullK p a) ∨ (code = (stepM p.c (tkM p.L) a).code ∧ (∀ k, tkM p'.L k = (stepM p.c (tkM p.L) a).map k) ∧ IntsT w' v (stepM p.c (tkM p.L) a).out.length (tkI (stepM p.c (tkM p.L) a).out))
theorem StillK.map {p p' : HD} (h : StillK p p') (k : Int) : tkM p'.L k = tkM p.L k := by rw [h.1]
section
variable {B0 : Nat} {w : World} {p : HD} {a : ActD}
end
end Go.Proofs.Ytlmflighkkgikaa
