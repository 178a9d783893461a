import Derived.KernelRfl
import Derived.Test.YtlmflighkkgikaaP42

namespace Go.Proofs.Ytlmflighkkgikaa
open Go.RowKit
def sameM (c d : Cfg) : Prop := c.layers = d.layers ∧ c.heads = d.heads ∧ c.pairs = d.pairs ∧ c.vocab = d.vocab ∧ c.seed = d.seed
theorem xIn_blocks (b1 s1 b2 s2 l h p v : Nat) (s : Int) : xIn ⟨b1, s1, l, h, p, v, s⟩ = xIn ⟨b2, s2, l, h, p, v, s⟩ := by kernel_rfl
theorem kOf_blocks (b1 s1 b2 s2 l h p v : Nat) (s : Int) : kOf ⟨b1, s1, l, h, p, v, s⟩ = kOf ⟨b2, s2, l, h, p, v, s⟩ := by kernel_rfl
theorem vOf_blocks (b1 s1 b2 s2 l h p v : Nat) (s : Int) : vOf ⟨b1, s1, l, h, p, v, s⟩ = vOf ⟨b2, s2, l, h, p, v, s⟩ := by kernel_rfl
theorem goTo_blocks (b1 s1 b2 s2 l h p v : Nat) (s : Int) : goTo ⟨b1, s1, l, h, p, v, s⟩ = goTo ⟨b2, s2, l, h, p, v, s⟩ := by kernel_rfl
theorem sameM.xIn {c d : Cfg} (e : sameM c d) : Go.Proofs.Ytlmflighkkgikaa.xIn c = Go.Proofs.Ytlmflighkkgikaa.xIn d := by
 obtain ⟨b1, s1, l, h, p, v, s⟩ := c
 obtain ⟨b2, s2, l', h', p', v', s'⟩ := d
 obtain ⟨rfl, rfl, rfl, rfl, rfl⟩ := e
 exact xIn_blocks ..
theorem sameM.kOf {c d : Cfg} (e : sameM c d) : Go.Proofs.Ytlmflighkkgikaa.kOf c = Go.Proofs.Ytlmflighkkgikaa.kOf d := by
 obtain ⟨b1, s1, l, h, p, v, s⟩ := c
 obtain ⟨b2, s2, l', h', p', v', s'⟩ := d
 obtain ⟨rfl, rfl, rfl, rfl, rfl⟩ := e
 exact kOf_blocks ..
theorem sameM.vOf {c d : Cfg} (e : sameM c d) : Go.Proofs.Ytlmflighkkgikaa.vOf c = Go.Proofs.Ytlmflighkkgikaa.vOf d := by
 obtain ⟨b1, s1, l, h, p, v, s⟩ := c
 obtain ⟨b2, s2, l', h', p', v', s'⟩ := d
 obtain ⟨rfl, rfl, rfl, rfl, rfl⟩ := e
 exact vOf_blocks ..
theorem sameM.goTo {c d : Cfg} (e : sameM c d) : Go.Proofs.Ytlmflighkkgikaa.goTo c = Go.Proofs.Ytlmflighkkgikaa.goTo d := by
 obtain ⟨b1, s1, l, h, p, v, s⟩ := c
 obtain ⟨b2, s2, l', h', p', v', s'⟩ := d
 obtain ⟨rfl, rfl, rfl, rfl, rfl⟩ := e
 exact goTo_blocks ..
def tkM (L : List (Int × Key)) (k : Int) : Option (List Nat) := (assoc L k).map (·.1)
section
variable {B0 : Nat} {w : World} {p : HD}
def codeO (o : Option (List Nat)) : Nat := match o with | none => 3 | some _ => 0
def lenO (o : Option (List Nat)) : Nat := match o with | none => 0 | some t => t.length
def tkO (o : Option (List Nat)) (j : Nat) : Int := match o with | none => 0 | some t => tkI t j
theorem ints_nil (w : World) (g : Nat → Int) : IntsT w (.slice none 0 0) 0 g := by
 have := IntsT.of_owns (g := g) (World.ownsRow_nil w 0 3 1)
 exact this
theorem ktokens (h : HeldK B0 w p) (k : Int) (hid : -9223372036854775808 ≤ k ∧ k ≤ 9223372036854775807) :
   Calls Try.prog 26 #[.pointer (some ⟨p.g.X, 0, none⟩), .int .i64 k] w fun e w' => ∃ r, e = .returned (.tuple #[r, .int .i64 (codeO (tkM p.L k))]) ∧ IntsT w' r (lenO (tkM p.L k)) (tkO (tkM p.L k)) ∧ Below w.heap.size w w' := by
 unfold tkM
 cases hk : assoc p.L k with
 | none =>
   refine (htokens_none p.F (fun _ => True) p.g p.c p.L p.il k w h.held hid hk).mono ?_
   rintro e w' ⟨rfl, rfl⟩
   exact ⟨_, rfl, ints_nil _ _, Below.refl _ _⟩
 | some k0 =>
   refine (htokens_some p.F (fun _ => True) p.g p.c h.cok p.L p.il k k0 w h.held hid hk).mono ?_
   rintro e w' ⟨r, rfl, ho, hb⟩
   exact ⟨r, rfl, IntsT.of_owns ho, hb⟩
theorem HeldK.toks (h : HeldK B0 w p) {k : Int} {t : List Nat} (ht : tkM p.L k = some t) : 0 < t.length ∧ t.length ≤ 40 ∧ ∀ x ∈ t, x < p.c.vocab := by
 unfold tkM at ht
 cases hk : assoc p.L k with
 | none => rw [hk] at ht; cases ht
 | some k0 =>
   rw [hk] at ht
   injection ht with ht
   subst ht
   obtain ⟨L1, L2, eL, _⟩ := assoc_split hk
   have hm : (k, k0) ∈ p.L := by rw [eL]; simp
   obtain ⟨B, free, hS, _⟩ := h.held.ex
   have := hS.pure.key k0 (mem_map_snd hm)
   exact ⟨List.length_pos_iff.2 (h.held.ne _ hm), this.2.1, this.2.2⟩
end
end Go.Proofs.Ytlmflighkkgikaa
