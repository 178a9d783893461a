import Derived.Test.YtlmflighkkgikaaP46
import Derived.Test.YtlmflighkkgikaaP47
import Derived.Test.YtlmflighkkgikaaP48

namespace Go.Proofs.Ytlmflighkkgikaa
open Go.RowKit
def SoL (L : List (Int × Key)) (o : Option (List Nat)) : Prop := match o with | none => L = [] | some T => ∃ k : Key, L = [(0, k)] ∧ k.1 = T
theorem SoL.tk {L : List (Int × Key)} {T : List Nat} (h : SoL L (some T)) (k : Int) : tkM L k = if k = 0 then some T else none := by
 obtain ⟨k0, rfl, rfl⟩ := h
 unfold tkM
 rw [assoc_cons, assoc_nil]
 by_cases e : k = 0
 · rw [if_pos e, if_pos e.symm]; rfl
 · rw [if_neg e, if_neg (fun q => e q.symm)]; rfl
structure DuoK (B0 : Nat) (wb w : World) (X Y : Nat) (c : Cfg) (p q : HD) (o o' : Option (List Nat)) : Prop where
 hp : HeldK B0 w p
 hq : HeldK B0 w q
 ap : ∀ k, p.S k → ¬ q.S k
 bel : Below B0 wb w
 X : p.g.X = X
 Y : q.g.X = Y
 cp : p.c = c
 cq : q.c = c
 B : B0 ≤ wb.heap.size
 all : c.blocks = 32
 so : SoL p.L o
 so' : SoL q.L o'
section
variable {B0 : Nat} {wb w : World} {X Y : Nat} {c : Cfg} {p q : HD} {o o' : Option (List Nat)}
theorem DuoK.size (h : DuoK B0 wb w X Y c p q o o') : B0 ≤ w.heap.size := Nat.le_trans h.B h.bel.size
theorem DuoK.below {w' : World} (h : DuoK B0 wb w X Y c p q o o') (hb : Below w.heap.size w w') : DuoK B0 wb w' X Y c p q o o' :=
 ⟨h.hp.below hb, h.hq.below hb, h.ap, h.bel.trans (hb.mono h.size), h.X, h.Y, h.cp, h.cq, h.B, h.all, h.so, h.so'⟩
theorem DuoK.flip (h : DuoK B0 wb w X Y c p q o o') : DuoK B0 wb w Y X c q p o' o :=
 ⟨h.hq, h.hp, fun k hk hk' => h.ap k hk' hk, h.bel, h.Y, h.X, h.cq, h.cp, h.B, h.all, h.so', h.so⟩
theorem DuoK.acted {w' : World} {p' : HD} {o1 : Option (List Nat)} (h : DuoK B0 wb w X Y c p q o o') (hp' : HeldK B0 w' p') (ha : ActedK w w' p p') (hs : SoL p'.L o1) : DuoK B0 wb w' X Y c p' q o1 o' := by
 obtain ⟨hq', hap⟩ := apart_symm h.hq ha h.ap
 exact ⟨hp', hq', hap, h.bel.trans (h.hp.bel ha h.size), ha.g ▸ h.X, h.Y, ha.c.trans h.cp, h.cq, h.B, h.all, hs, h.so'⟩
end
def mineOf (a : ActD) : Int := if pickI a.K 10 = 7 then pickI a.B 5 else if pickI a.K 10 = 9 then -1 else pickI a.A 5
structure OneK (B0 : Nat) (wb w : World) (X : Nat) (c : Cfg) (p : HD) : Prop where
 hp : HeldK B0 w p
 ip : idsK p.L
 bel : Below B0 wb w
 X : p.g.X = X
 c : p.c = c
 B : B0 ≤ wb.heap.size
section
variable {B0 : Nat} {wb w : World} {X : Nat} {c : Cfg} {p : HD}
theorem OneK.size (h : OneK B0 wb w X c p) : B0 ≤ w.heap.size := Nat.le_trans h.B h.bel.size
theorem OneK.below {w' : World} (h : OneK B0 wb w X c p) (hb : Below w.heap.size w w') : OneK B0 wb w' X c p :=
 ⟨h.hp.below hb, h.ip, h.bel.trans (hb.mono h.size), h.X, h.c, h.B⟩
theorem OneK.acted {w' : World} {p' : HD} (h : OneK B0 wb w X c p) (hp' : HeldK B0 w' p') (ha : ActedK w w' p p') (hi : idsK p'.L) : OneK B0 wb w' X c p' :=
 ⟨hp', hi, h.bel.trans (h.hp.bel ha h.size), ha.g ▸ h.X, ha.c.trans h.c, h.B⟩
structure ActK (p p' : HD) (a : ActD) (code : Nat) : Prop where
 still : code ≠ 0 → StillK p p'
 alone : ∀ k : Int, tkM p'.L k = tkM p.L k ∨ (k = mineOf a ∧ code = 0)
 full : code = 6 → FullK p a
end
end Go.Proofs.Ytlmflighkkgikaa
