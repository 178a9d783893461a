import Derived.KernelRfl
import Derived.Test.YtlmflighkkgikaaP35
import Derived.Test.YtlmflighkkgikaaP42

namespace Go.Proofs.Ytlmflighkkgikaa
open Go.RowKit
def sameM (c d : Cfg) : Prop := c.layers = d.layers ∧ c.heads = d.heads ∧ c.pairs = d.pairs ∧ c.vocab = d.vocab ∧ c.seed = d.seed
theorem xIn_blocks (b1 s1 b2 s2 l h p v : Nat) (s : Int) : xIn ⟨b1, s1, l, h, p, v, s⟩ = xIn ⟨b2, s2, l, h, p, v, s⟩ := by kernel_rfl
theorem kOf_blocks (b1 s1 b2 s2 l h p v : Nat) (s : Int) : kOf ⟨b1, s1, l, h, p, v, s⟩ = kOf ⟨b2, s2, l, h, p, v, s⟩ := by kernel_rfl
theorem vOf_blocks (b1 s1 b2 s2 l h p v : Nat) (s : Int) : vOf ⟨b1, s1, l, h, p, v, s⟩ = vOf ⟨b2, s2, l, h, p, v, s⟩ := by kernel_rfl
theorem goTo_blocks (b1 s1 b2 s2 l h p v : Nat) (s : Int) : goTo ⟨b1, s1, l, h, p, v, s⟩ = goTo ⟨b2, s2, l, h, p, v, s⟩ := by kernel_rfl
theorem sameM.xIn {c d : Cfg} (e : sameM c d) : Go.Proofs.Ytlmflighkkgikaa.xIn c = Go.Proofs.Ytlmflighkkgikaa.xIn d := by
 obtain ⟨b1, s1, l, h, p, v, s⟩ := c
 obtain ⟨b2, s2, l', h', p', v', s'⟩ := d
 obtain ⟨rfl, rfl, rfl, rfl, rfl⟩ := e
 exact xIn_blocks ..
theorem sameM.kOf {c d : Cfg} (e : sameM c d) : Go.Proofs.Ytlmflighkkgikaa.kOf c = Go.Proofs.Ytlmflighkkgikaa.kOf d := by
 obtain ⟨b1, s1, l, h, p, v, s⟩ := c
 obtain ⟨b2, s2, l', h', p', v', s'⟩ := d
 obtain ⟨rfl, rfl, rfl, rfl, rfl⟩ := e
 exact kOf_blocks ..
theorem sameM.vOf {c d : Cfg} (e : sameM c d) : Go.Proofs.Ytlmflighkkgikaa.vOf c = Go.Proofs.Ytlmflighkkgikaa.vOf d := by
 obtain ⟨b1, s1, l, h, p, v, s⟩ := c
 obtain ⟨b2, s2, l', h', p', v', s'⟩ := d
 obtain ⟨rfl, rfl, rfl, rfl, rfl⟩ := e
 exact vOf_blocks ..
theorem sameM.goTo {c d : Cfg} (e : sameM c d) : Go.Proofs.Ytlmflighkkgikaa.goTo c = Go.Proofs.Ytlmflighkkgikaa.goTo d := by
 obtain ⟨b1, s1, l, h, p, v, s⟩ := c
 obtain ⟨b2, s2, l', h', p', v', s'⟩ := d
 obtain ⟨rfl, rfl, rfl, rfl, rfl⟩ := e
 exact goTo_blocks ..
def tkM (L : List (Int × Key)) (k : Int) : Option (List Nat) := (assoc L k).map (·.1)
section
variable {B0 : Nat} {w : World} {p : HD}
theorem ints_nil (w : World) (g : Nat → Int) : IntsT w (.slice none 0 0) 0 g := by
 have := IntsT.of_owns (g := g) (World.ownsRow_nil w 0 3 1)
 exact this
theorem HeldK.toks (h : HeldK B0 w p) {k : Int} {t : List Nat} (ht : tkM p.L k = some t) : 0 < t.length ∧ t.length ≤ 40 ∧ ∀ x ∈ t, x < p.c.vocab := by
 unfold tkM at ht
 cases hk : assoc p.L k with
 | none => rw [hk] at ht; cases ht
 | some k0 =>
   rw [hk] at ht
   injection ht with ht
   subst ht
   obtain ⟨L1, L2, eL, _⟩ := assoc_split hk
   have hm : (k, k0) ∈ p.L := by rw [eL]; simp
   obtain ⟨B, free, hS, _⟩ := h.held.ex
   have := hS.pure.key k0 (mem_map_snd hm)
   exact ⟨List.length_pos_iff.2 (h.held.ne _ hm), this.2.1, this.2.2⟩
end
end Go.Proofs.Ytlmflighkkgikaa
namespace Go.Proofs.Ytlmflighkkgikaa
def nbSum (s : Nat) (H : List Key) : Nat := (H.map fun h => nbOf s h.1.length).sum
theorem kchain_len (s : Nat) (h : Key) : (chain s h).length = nbOf s h.1.length := by unfold chain nbOf; simp
theorem nUsed_sum (s : Nat) (H : List Key) : nUsed s H ≤ nbSum s H := by
 have h1 : (usedK s H).length ≤ (H.flatMap (chain s)).length := nodup_le (nodup_dd _) (fun x hx => (mem_dd _ _).1 hx)
 have h2 : (H.flatMap (chain s)).length = nbSum s H := by
   rw [List.length_flatMap]
   unfold nbSum
   congr 1
   exact List.map_congr_left (fun h _ => kchain_len s h)
 unfold nUsed
 omega
theorem nb_split {s a b : Nat} (hs : 1 ≤ s) (ha : a % s = 0) : nbOf s (a + b) = nbOf s a + nbOf s b := by
 obtain ⟨q, rfl⟩ : ∃ q, a = s * q := ⟨a / s, by have := Nat.div_add_mod a s; omega⟩
 have e1 : nbOf s (s * q) = q := by
   unfold nbOf
   rw [show s * q + s - 1 = (s - 1) + s * q by omega, Nat.add_mul_div_left _ _ (by omega), Nat.div_eq_of_lt (by omega)]
   omega
 rw [e1]
 unfold nbOf
 rw [show s * q + b + s - 1 = (b + s - 1) + s * q by omega, Nat.add_mul_div_left _ _ (by omega)]
 omega
theorem full_sum {c : Cfg} {k0 : Key} {H0 : List Key} {il : List (List Nat)} {T : List Nat} (hs : 1 ≤ c.slots) (hp : Pure c.slots c.vocab (k0 :: H0) il) (hcount : il.length + nUsed c.slots (k0 :: H0) ≤ c.blocks) (hk : k0.1 <+: T) (hf : fullS c k0 H0 il T) : c.blocks < nbSum c.slots H0 + nbOf c.slots T.length := by
 obtain ⟨f1, f4, f5, f6⟩ := far_factsS hp T
 generalize hfar : farS c.slots (k0 :: H0) il T = far at f1 f4 f5 f6
 have f2 := List.prefix_iff_eq_take.1 f1
 have f3 := f1.length_le
 have hkey := hp.ok k0 (by simp)
 have hkn : k0.1 = [] → k0.2 = 0 := fun e => by unfold keyOk at hkey; exact hkey.2 (by rw [e]; simp)
 have hH : ∀ h ∈ H0, keyOk c.slots h := fun h hh => hp.ok h (List.mem_cons_of_mem _ hh)
 have hfk : keyOk c.slots (far, 0) := by unfold keyOk; simp [f4]
 have hcov := fun x hx hx2 => far_covers hp T far hk f2 f6 x hx hx2
 have hu := nUsed_use hs hp f5
 have hc := nUsed_covered hs hkey hH far hfk hcov hkn
 have hperm : nUsed c.slots ((far, 0) :: k0 :: H0) = nUsed c.slots (k0 :: (far, 0) :: H0) := nUsed_perm c.slots _ _ hs (fun h hh => by
   rcases List.mem_cons.1 hh with rfl | hh
   · exact hfk
   · exact hp.ok h hh) (fun h => by simp only [List.mem_cons]; constructor <;> (rintro (q | q | q) <;> simp [q]))
 have hsum := nUsed_sum c.slots ((far, 0) :: H0)
 have e1 : nbSum c.slots ((far, 0) :: H0) = nbOf c.slots far.length + nbSum c.slots H0 := by unfold nbSum; simp
 have hnb := nb_split (b := T.length - far.length) hs f4
 rw [show far.length + (T.length - far.length) = T.length by omega] at hnb
 unfold fullS freeS needS upS at hf
 rw [hfar] at hf
 simp only [] at hu
 omega
theorem HeldK.pure0 {B0 : Nat} {w : World} {p : HD} (h : HeldK B0 w p) : Pure p.c.slots p.c.vocab (p.L.map (·.2)) p.il ∧ p.il.length + nUsed p.c.slots (p.L.map (·.2)) ≤ p.c.blocks ∧ (freeS p.c (p.L.map (·.2)) p.il + p.il.length + nUsed p.c.slots (p.L.map (·.2)) = p.c.blocks) := by
 obtain ⟨B, free, hS, _⟩ := h.held.ex
 have := hS.count
 refine ⟨hS.pure, by omega, ?_⟩
 unfold freeS
 omega
theorem pure_come {s v : Nat} {H : List Key} {il : List (List Nat)} (h : Pure s v H il) : Pure s v (([], 0) :: H) il := by
 have hb : ∀ k, heldBy s (([], 0) :: H) k ↔ heldBy s H k := fun k => by
   rw [heldBy_cons]
   exact ⟨fun q => q.elim (fun q => absurd q (on_nil s k 0)) (fun q => q), .inr⟩
 refine ⟨fun x hx => ?_, h.whole, fun p hp q => h.out p hp ((hb _).1 q), h.order, fun p hp q h1 h2 h3 => (h.shut p hp q h1 h2 h3).imp (fun x => x) (hb _).2⟩
 rcases List.mem_cons.1 hx with rfl | hx
 · exact ⟨by unfold keyOk; simp, by simp, by simp⟩
 · exact h.key x hx
theorem HeldK.full_new {B0 : Nat} {w : World} {p : HD} (h : HeldK B0 w p) (T : List Nat) (hf : fullS p.c ([], 0) (p.L.map (·.2)) p.il T) : p.c.blocks < nbSum p.c.slots (p.L.map (·.2)) + nbOf p.c.slots T.length := by
 obtain ⟨h1, h2, _⟩ := h.pure0
 have hs := h.cok.slots.1
 refine full_sum hs (pure_come h1) ?_ (List.nil_prefix) hf
 rw [nUsed_nil _ _ 0 hs h1.ok rfl]
 exact h2
end Go.Proofs.Ytlmflighkkgikaa
