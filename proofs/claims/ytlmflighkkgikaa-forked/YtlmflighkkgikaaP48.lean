import Derived.Test.YtlmflighkkgikaaP45
import Derived.Test.YtlmflighkkgikaaP46

namespace Go.Proofs.Ytlmflighkkgikaa
open Go.RowKit
theorem HeldK.low {B0 B1 : Nat} {w : World} {p : HD} (h : HeldK B1 w p) (hle : B0 ≤ B1) : HeldK B0 w p :=
 ⟨h.cok, h.held, fun k hk => ⟨Nat.le_trans hle (h.lo k hk).1, (h.lo k hk).2⟩⟩
structure TwoK (B0 : Nat) (wb w : World) (X Y : Nat) (c d : Cfg) (p q : HD) : Prop where
 hp : HeldK B0 w p
 hq : HeldK B0 w q
 ap : ∀ k, p.S k → ¬ q.S k
 ip : idsK p.L
 iq : idsK q.L
 tk : ∀ k, tkM p.L k = tkM q.L k
 bel : Below B0 wb w
 X : p.g.X = X
 Y : q.g.X = Y
 c : p.c = c
 d : q.c = d
 B : B0 ≤ wb.heap.size
section
variable {B0 : Nat} {wb w : World} {X Y : Nat} {c d : Cfg} {p q : HD}
theorem TwoK.size (h : TwoK B0 wb w X Y c d p q) : B0 ≤ w.heap.size := Nat.le_trans h.B h.bel.size
theorem TwoK.below {w' : World} (h : TwoK B0 wb w X Y c d p q) (hb : Below w.heap.size w w') : TwoK B0 wb w' X Y c d p q :=
 ⟨h.hp.below hb, h.hq.below hb, h.ap, h.ip, h.iq, h.tk, h.bel.trans (hb.mono h.size), h.X, h.Y, h.c, h.d, h.B⟩
theorem apart_symm {p q q' : HD} {w w' : World} {B0 : Nat} (h : HeldK B0 w p) (hq : ActedK w w' q q') (hd : ∀ k, q.S k → ¬ p.S k) : HeldK B0 w' p ∧ ∀ k, q'.S k → ¬ p.S k := by
 obtain ⟨a, b⟩ := apart_acted h hq (fun k hk hk' => hd k hk' hk)
 exact ⟨a, fun k hk hk' => b k hk' hk⟩
structure HalfK (B0 : Nat) (wb w : World) (X Y : Nat) (c d : Cfg) (p q p' : HD) (a : ActD) (code : Nat) (v : Value) : Prop where
 hp : HeldK B0 w p'
 hq : HeldK B0 w q
 ap : ∀ k, p'.S k → ¬ q.S k
 iq : idsK q.L
 tk : ∀ k, tkM p.L k = tkM q.L k
 bel : Below B0 wb w
 X : p'.g.X = X
 Y : q.g.X = Y
 c0 : p.c = c
 c : p'.c = c
 d : q.c = d
 B : B0 ≤ wb.heap.size
 did : DidK w p p' a code v
end
end Go.Proofs.Ytlmflighkkgikaa
