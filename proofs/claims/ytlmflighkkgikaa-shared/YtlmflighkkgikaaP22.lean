import Derived.Test.YtlmflighkkgikaaP12
import Derived.Test.YtlmflighkkgikaaP20

namespace Go.Proofs.Ytlmflighkkgikaa
open Go.RowKit
def memOf (c : Cfg) (tk : Nat → Nat) : Nat → (Nat → Nat → Nat → Int) × (Nat → Nat → Nat → Int)
 | 0 => (fun _ _ _ => 0, fun _ _ _ => 0)
 | p + 1 => (fun t l => if t = p then kNew c l p (xAt c p (tk p) (memOf c tk p).1 (memOf c tk p).2 l) else (memOf c tk p).1 t l,
             fun t l => if t = p then vNew c l (xAt c p (tk p) (memOf c tk p).1 (memOf c tk p).2 l) else (memOf c tk p).2 t l)
def xIn (c : Cfg) (tk : Nat → Nat) (p l : Nat) : Nat → Int := xAt c p (tk p) (memOf c tk p).1 (memOf c tk p).2 l
def kOf (c : Cfg) (tk : Nat → Nat) (p l : Nat) : Nat → Int := kNew c l p (xIn c tk p l)
def vOf (c : Cfg) (tk : Nat → Nat) (p l : Nat) : Nat → Int := vNew c l (xIn c tk p l)
theorem memOf_at (c : Cfg) (tk : Nat → Nat) (n t : Nat) (h : t < n) : (memOf c tk n).1 t = kOf c tk t ∧ (memOf c tk n).2 t = vOf c tk t := by
 induction n with
 | zero => omega
 | succ n ih =>
   by_cases e : t = n
   · subst e; simp only [memOf, if_true]; exact ⟨rfl, rfl⟩
   · simp only [memOf, if_neg e]; exact ih (by omega)
theorem memOf_bd (c : Cfg) (tk : Nat → Nat) (n : Nat) : (∀ t l j, -4095 ≤ (memOf c tk n).1 t l j ∧ (memOf c tk n).1 t l j ≤ 4095) ∧ (∀ t l j, -4095 ≤ (memOf c tk n).2 t l j ∧ (memOf c tk n).2 t l j ≤ 4095) := by
 induction n with
 | zero => constructor <;> intro t l j <;> simp [memOf]
 | succ n ih =>
   constructor <;> intro t l j <;> simp only [memOf] <;> split
   · exact kNew_bd _ _ _ _ _
   · exact ih.1 t l j
   · exact vNew_bd _ _ _ _
   · exact ih.2 t l j
theorem memOf_congr (c : Cfg) {tk tk' : Nat → Nat} (n : Nat) (h : ∀ j, j < n → tk j = tk' j) : memOf c tk n = memOf c tk' n := by
 induction n with
 | zero => rfl
 | succ n ih => simp only [memOf]; rw [ih (fun j hj => h j (by omega)), h n (by omega)]
theorem xIn_congr (c : Cfg) {tk tk' : Nat → Nat} (p : Nat) (h : ∀ j, j ≤ p → tk j = tk' j) : xIn c tk p = xIn c tk' p := by
 funext l; unfold xIn; rw [memOf_congr c p (fun j hj => h j (by omega)), h p (Nat.le_refl _)]
theorem kOf_congr (c : Cfg) {tk tk' : Nat → Nat} (p : Nat) (h : ∀ j, j ≤ p → tk j = tk' j) : kOf c tk p = kOf c tk' p ∧ vOf c tk p = vOf c tk' p := by
 constructor
 · funext l; unfold kOf; rw [xIn_congr c p h]
 · funext l; unfold vOf; rw [xIn_congr c p h]
end Go.Proofs.Ytlmflighkkgikaa
namespace Go.Proofs.Ytlmflighkkgikaa
open Go.RowKit
attribute [local go_sem ↓] Go.wp_at_zero Go.wp_at_succ
def argTo (f : Nat → Int) : Nat → Nat
 | 0 => 0
 | n + 1 => if f (argTo f n) < f (n + 1) then n + 1 else argTo f n
theorem argTo_le (f : Nat → Int) (n : Nat) : argTo f n ≤ n := by
 induction n with
 | zero => exact Nat.le_refl _
 | succ n ih => simp only [argTo]; split <;> omega
def nextOf (c : Cfg) (x : Nat → Int) : Nat := argTo (logitsOf c x) (c.vocab - 1)
theorem nextOf_lt (c : Cfg) (hc : c.ok) (x : Nat → Int) : nextOf c x < c.vocab := by
 have := argTo_le (logitsOf c x) (c.vocab - 1)
 have := hc.vocab.1
 unfold nextOf
 omega
end Go.Proofs.Ytlmflighkkgikaa
