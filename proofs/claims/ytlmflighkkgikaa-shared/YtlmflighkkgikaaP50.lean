import Derived.Test.YtlmflighkkgikaaP45
import Derived.Test.YtlmflighkkgikaaP49

namespace Go.Proofs.Ytlmflighkkgikaa
open Go.RowKit
structure DuoG (B0 : Nat) (wb w : World) (X Y : Nat) (c : Cfg) (p q : HD) : Prop where
 hp : HeldK B0 w p
 hq : HeldK B0 w q
 ap : ∀ k, p.S k → ¬ q.S k
 bel : Below B0 wb w
 X : p.g.X = X
 Y : q.g.X = Y
 cp : p.c = c
 cq : q.c = c
 B : B0 ≤ wb.heap.size
section
variable {B0 : Nat} {wb w : World} {X Y : Nat} {c : Cfg} {p q : HD}
theorem DuoG.size (h : DuoG B0 wb w X Y c p q) : B0 ≤ w.heap.size := Nat.le_trans h.B h.bel.size
theorem DuoG.below {w' : World} (h : DuoG B0 wb w X Y c p q) (hb : Below w.heap.size w w') : DuoG B0 wb w' X Y c p q :=
 ⟨h.hp.below hb, h.hq.below hb, h.ap, h.bel.trans (hb.mono h.size), h.X, h.Y, h.cp, h.cq, h.B⟩
theorem DuoG.flip (h : DuoG B0 wb w X Y c p q) : DuoG B0 wb w Y X c q p :=
 ⟨h.hq, h.hp, fun k hk hk' => h.ap k hk' hk, h.bel, h.Y, h.X, h.cq, h.cp, h.B⟩
theorem DuoG.acted {w' : World} {p' : HD} (h : DuoG B0 wb w X Y c p q) (hp' : HeldK B0 w' p') (ha : ActedK w w' p p') : DuoG B0 wb w' X Y c p' q := by
 obtain ⟨hq', hap⟩ := apart_symm h.hq ha h.ap
 exact ⟨hp', hq', hap, h.bel.trans (h.hp.bel ha h.size), ha.g ▸ h.X, h.Y, ha.c.trans h.cp, h.cq, h.B⟩
end
def nbI (s : Nat) (x : Int) : Int := nbOf s x.toNat
theorem nbI_cast (s n : Nat) : nbI s n = nbOf s n := by unfold nbI; rw [Int.toNat_natCast]
section
variable {B0 : Nat} {wb w : World} {X : Nat} {c : Cfg} {p : HD}
end
end Go.Proofs.Ytlmflighkkgikaa
