import Derived.Test.YtlmflighkkgikaaP49
import Derived.Test.YtlmflighkkgikaaP50

namespace Go.Proofs.Ytlmflighkkgikaa
open Go.RowKit
theorem stepM_same {c d : Cfg} (hm : sameM c d) {m m' : TM} (he : ∀ k, m k = m' k) (a : ActD) : stepM c m a = stepM d m' a := by
 have e : m = m' := funext he
 subst e
 unfold stepM
 rw [hm.goTo, hm.2.2.2.1]
theorem HeldK.low {B0 B1 : Nat} {w : World} {p : HD} (h : HeldK B1 w p) (hle : B0 ≤ B1) : HeldK B0 w p :=
 ⟨h.cok, h.held, fun k hk => ⟨Nat.le_trans hle (h.lo k hk).1, (h.lo k hk).2⟩⟩
structure TwoK (B0 : Nat) (wb w : World) (X Y : Nat) (c d : Cfg) (p q : HD) : Prop where
 hp : HeldK B0 w p
 hq : HeldK B0 w q
 ap : ∀ k, p.S k → ¬ q.S k
 ip : idsK p.L
 iq : idsK q.L
 tk : ∀ k, tkM p.L k = tkM q.L k
 bel : Below B0 wb w
 X : p.g.X = X
 Y : q.g.X = Y
 c : p.c = c
 d : q.c = d
 B : B0 ≤ wb.heap.size
section
variable {B0 : Nat} {wb w : World} {X Y : Nat} {c d : Cfg} {p q : HD}
theorem TwoK.size (h : TwoK B0 wb w X Y c d p q) : B0 ≤ w.heap.size := Nat.le_trans h.B h.bel.size
theorem TwoK.below {w' : World} (h : TwoK B0 wb w X Y c d p q) (hb : Below w.heap.size w w') : TwoK B0 wb w' X Y c d p q :=
 ⟨h.hp.below hb, h.hq.below hb, h.ap, h.ip, h.iq, h.tk, h.bel.trans (hb.mono h.size), h.X, h.Y, h.c, h.d, h.B⟩
theorem apart_symm {p q q' : HD} {w w' : World} {B0 : Nat} (h : HeldK B0 w p) (hq : ActedK w w' q q') (hd : ∀ k, q.S k → ¬ p.S k) : HeldK B0 w' p ∧ ∀ k, q'.S k → ¬ p.S k := by
 obtain ⟨a, b⟩ := apart_acted h hq (fun k hk hk' => hd k hk' hk)
 exact ⟨a, fun k hk hk' => b k hk' hk⟩
theorem two_evx (h : TwoK B0 wb w X Y c d p q) (n : Int) :
   Calls Try.prog 27 #[.pointer (some ⟨X, 0, none⟩), .int .i64 n] w fun e w' => ∃ m : Nat, e = .returned (.int .i64 m) ∧ ∃ p', TwoK B0 wb w' X Y c d p' q := by
 have hk := kevict h.hp h.size n
 rw [h.X] at hk
 refine hk.mono ?_
 rintro e w' ⟨rfl, p', hp', ha, eL, _⟩
 obtain ⟨hq', hap⟩ := apart_symm h.hq ha h.ap
 exact ⟨_, rfl, p', hp', hq', hap, by rw [eL]; exact h.ip, h.iq, by rw [eL]; exact h.tk, h.bel.trans (h.hp.bel ha h.size), ha.g ▸ h.X, h.Y, ha.c.trans h.c, h.d, h.B⟩
theorem two_evy (h : TwoK B0 wb w X Y c d p q) (n : Int) :
   Calls Try.prog 27 #[.pointer (some ⟨Y, 0, none⟩), .int .i64 n] w fun e w' => ∃ m : Nat, e = .returned (.int .i64 m) ∧ ∃ q', TwoK B0 wb w' X Y c d p q' := by
 have hk := kevict h.hq h.size n
 rw [h.Y] at hk
 refine hk.mono ?_
 rintro e w' ⟨rfl, q', hq', ha, eL, _⟩
 obtain ⟨hp', hap⟩ := apart_acted h.hp ha h.ap
 exact ⟨_, rfl, q', hp', hq', hap, h.ip, by rw [eL]; exact h.iq, by rw [eL]; exact h.tk, h.bel.trans (h.hq.bel ha h.size), h.X, ha.g ▸ h.Y, h.c, ha.c.trans h.d, h.B⟩
theorem two_alike (h : TwoK B0 wb w X Y c d p q) (hm : sameM c d) :
   Calls Try.prog 17 #[.pointer (some ⟨X, 0, none⟩), .pointer (some ⟨Y, 0, none⟩), .int .i64 c.layers] w fun e w' => e = .returned (.bool true) ∧ TwoK B0 wb w' X Y c d p q := by
 have hk := hkalike_any h.hp h.hq (by rw [h.c, h.d]; exact hm) (fun k _ _ => h.tk k)
 rw [h.X, h.Y, h.c] at hk
 refine hk.mono ?_
 rintro e w' ⟨rfl, hb⟩
 exact ⟨rfl, h.below hb⟩
structure HalfK (B0 : Nat) (wb w : World) (X Y : Nat) (c d : Cfg) (p q p' : HD) (a : ActD) (code : Nat) (v : Value) : Prop where
 hp : HeldK B0 w p'
 hq : HeldK B0 w q
 ap : ∀ k, p'.S k → ¬ q.S k
 iq : idsK q.L
 tk : ∀ k, tkM p.L k = tkM q.L k
 bel : Below B0 wb w
 X : p'.g.X = X
 Y : q.g.X = Y
 c0 : p.c = c
 c : p'.c = c
 d : q.c = d
 B : B0 ≤ wb.heap.size
 did : DidK w p p' a code v
theorem two_doesx (h : TwoK B0 wb w X Y c d p q) {a : ActD} (ha : a.ok w) :
   Calls Try.prog 24 #[.pointer (some ⟨X, 0, none⟩), a.val, .int .i64 c.vocab] w fun e w' => ∃ (code : Nat) (v : Value) (p' : HD), e = .returned (.tuple #[.int .i64 code, v]) ∧ KeepT 48 w w' ∧ HalfK B0 wb w' X Y c d p q p' a code v := by
 have hk := did_any h.hp h.size ha h.ip
 rw [h.X, h.c] at hk
 refine hk.mono ?_
 rintro e w' ⟨code, v, p', rfl, hp', hac, hd⟩
 obtain ⟨hq', hap⟩ := apart_symm h.hq hac h.ap
 exact ⟨code, v, p', rfl, hac.moves.kept _ (by unfold mutT; decide), hp', hq', hap, h.iq, h.tk, h.bel.trans (h.hp.bel hac h.size), hac.g ▸ h.X, h.Y, h.c, hac.c.trans h.c, h.d, h.B, hd⟩
theorem two_doesy {p' : HD} {a : ActD} {code : Nat} {v : Value} (h : HalfK B0 wb w X Y c d p q p' a code v) (hm : sameM c d) (ha : a.ok w) :
   Calls Try.prog 24 #[.pointer (some ⟨Y, 0, none⟩), a.val, .int .i64 c.vocab] w fun e w' => ∃ (code' : Nat) (v' : Value) (q' : HD), e = .returned (.tuple #[.int .i64 code', v']) ∧ (code = 6 ∨ (code ≠ 6 ∧ code' = 6) ∨ (code ≠ 6 ∧ code' = code ∧ (∃ n f, IntsT w' v n f ∧ IntsT w' v' n f) ∧ TwoK B0 wb w' X Y c d p' q')) ∧ Below B0 wb w' := by
 have hs : B0 ≤ w.heap.size := Nat.le_trans h.B h.bel.size
 have hk := did_any h.hq hs ha h.iq
 rw [h.Y, h.d, ← hm.2.2.2.1] at hk
 refine hk.mono ?_
 rintro e w' ⟨code', v', q', rfl, hq', hac, hd⟩
 obtain ⟨hp', hap⟩ := apart_acted h.hp hac h.ap
 have hbel := h.bel.trans (h.hq.bel hac hs)
 refine ⟨code', v', q', rfl, ?_, hbel⟩
 by_cases h6 : code = 6
 · exact .inl h6
 by_cases h6' : code' = 6
 · exact .inr (.inl ⟨h6, h6'⟩)
 refine .inr (.inr ⟨h6, ?_⟩)
 rcases h.did.said with ⟨q1, _⟩ | ⟨e1, m1, i1⟩
 · exact absurd q1 h6
 rcases hd.said with ⟨q1, _⟩ | ⟨e2, m2, i2⟩
 · exact absurd q1 h6'
 have es : stepM p.c (tkM p.L) a = stepM q.c (tkM q.L) a := stepM_same (by rw [h.c0, h.d]; exact hm) h.tk a
 rw [es] at e1 m1 i1
 refine ⟨e2.trans e1.symm, ⟨_, _, i1.keep (hac.moves.kept _ (by unfold mutT; decide)), i2⟩, hp', hq', hap, h.did.ids, hd.ids, fun k => (m1 k).trans (m2 k).symm, hbel, h.X, hac.g ▸ h.Y, h.c, hac.c.trans h.d, h.B⟩
end
end Go.Proofs.Ytlmflighkkgikaa
