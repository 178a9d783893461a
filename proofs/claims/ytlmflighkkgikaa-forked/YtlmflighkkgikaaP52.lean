import Derived.Test.YtlmflighkkgikaaP46
import Derived.Test.YtlmflighkkgikaaP49

namespace Go.Proofs.Ytlmflighkkgikaa
open Go.RowKit
def mineOf (a : ActD) : Int := if pickI a.K 10 = 7 then pickI a.B 5 else if pickI a.K 10 = 9 then -1 else pickI a.A 5
structure OneK (B0 : Nat) (wb w : World) (X : Nat) (c : Cfg) (p : HD) : Prop where
 hp : HeldK B0 w p
 ip : idsK p.L
 bel : Below B0 wb w
 X : p.g.X = X
 c : p.c = c
 B : B0 ≤ wb.heap.size
section
variable {B0 : Nat} {wb w : World} {X : Nat} {c : Cfg} {p : HD}
theorem OneK.size (h : OneK B0 wb w X c p) : B0 ≤ w.heap.size := Nat.le_trans h.B h.bel.size
theorem OneK.below {w' : World} (h : OneK B0 wb w X c p) (hb : Below w.heap.size w w') : OneK B0 wb w' X c p :=
 ⟨h.hp.below hb, h.ip, h.bel.trans (hb.mono h.size), h.X, h.c, h.B⟩
theorem OneK.acted {w' : World} {p' : HD} (h : OneK B0 wb w X c p) (hp' : HeldK B0 w' p') (ha : ActedK w w' p p') (hi : idsK p'.L) : OneK B0 wb w' X c p' :=
 ⟨hp', hi, h.bel.trans (h.hp.bel ha h.size), ha.g ▸ h.X, ha.c.trans h.c, h.B⟩
structure ActK (p p' : HD) (a : ActD) (code : Nat) : Prop where
 still : code ≠ 0 → StillK p p'
 alone : ∀ k : Int, tkM p'.L k = tkM p.L k ∨ (k = mineOf a ∧ code = 0)
 full : code = 6 → FullK p a
end
end Go.Proofs.Ytlmflighkkgikaa
