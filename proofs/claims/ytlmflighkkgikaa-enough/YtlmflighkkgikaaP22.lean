import Derived.Test.YtlmflighkkgikaaP12
import Derived.Test.YtlmflighkkgikaaP20

namespace Go.Proofs.Ytlmflighkkgikaa
open Go.RowKit
def memOf (c : Cfg) (tk : Nat → Nat) : Nat → (Nat → Nat → Nat → Int) × (Nat → Nat → Nat → Int)
 | 0 => (fun _ _ _ => 0, fun _ _ _ => 0)
 | p + 1 => (fun t l => if t = p then kNew c l p (xAt c p (tk p) (memOf c tk p).1 (memOf c tk p).2 l) else (memOf c tk p).1 t l,
             fun t l => if t = p then vNew c l (xAt c p (tk p) (memOf c tk p).1 (memOf c tk p).2 l) else (memOf c tk p).2 t l)
def xIn (c : Cfg) (tk : Nat → Nat) (p l : Nat) : Nat → Int := xAt c p (tk p) (memOf c tk p).1 (memOf c tk p).2 l
def kOf (c : Cfg) (tk : Nat → Nat) (p l : Nat) : Nat → Int := kNew c l p (xIn c tk p l)
def vOf (c : Cfg) (tk : Nat → Nat) (p l : Nat) : Nat → Int := vNew c l (xIn c tk p l)
theorem memOf_at (c : Cfg) (tk : Nat → Nat) (n t : Nat) (h : t < n) : (memOf c tk n).1 t = kOf c tk t ∧ (memOf c tk n).2 t = vOf c tk t := by
 induction n with
 | zero => omega
 | succ n ih =>
   by_cases e : t = n
   · subst e; simp only [memOf, if_true]; exact ⟨rfl, rfl⟩
   · simp only [memOf, if_neg e]; exact ih (by omega)
theorem memOf_bd (c : Cfg) (tk : Nat → Nat) (n : Nat) : (∀ t l j, -4095 ≤ (memOf c tk n).1 t l j ∧ (memOf c tk n).1 t l j ≤ 4095) ∧ (∀ t l j, -4095 ≤ (memOf c tk n).2 t l j ∧ (memOf c tk n).2 t l j ≤ 4095) := by
 induction n with
 | zero => constructor <;> intro t l j <;> simp [memOf]
 | succ n ih =>
   constructor <;> intro t l j <;> simp only [memOf] <;> split
   · exact kNew_bd _ _ _ _ _
   · exact ih.1 t l j
   · exact vNew_bd _ _ _ _
   · exact ih.2 t l j
theorem memOf_congr (c : Cfg) {tk tk' : Nat → Nat} (n : Nat) (h : ∀ j, j < n → tk j = tk' j) : memOf c tk n = memOf c tk' n := by
 induction n with
 | zero => rfl
 | succ n ih => simp only [memOf]; rw [ih (fun j hj => h j (by omega)), h n (by omega)]
theorem xIn_congr (c : Cfg) {tk tk' : Nat → Nat} (p : Nat) (h : ∀ j, j ≤ p → tk j = tk' j) : xIn c tk p = xIn c tk' p := by
 funext l; unfold xIn; rw [memOf_congr c p (fun j hj => h j (by omega)), h p (Nat.le_refl _)]
theorem kOf_congr (c : Cfg) {tk tk' : Nat → Nat} (p : Nat) (h : ∀ j, j ≤ p → tk j = tk' j) : kOf c tk p = kOf c tk' p ∧ vOf c tk p = vOf c tk' p := by
 constructor
 · funext l; unfold kOf; rw [xIn_congr c p h]
 · funext l; unfold vOf; rw [xIn_congr c p h]
theorem xIn_bd (c : Cfg) (tk : Nat → Nat) (p l j : Nat) : -4095 ≤ xIn c tk p l j ∧ xIn c tk p l j ≤ 4095 := xAt_bd _ _ _ _ _ _ _
end Go.Proofs.Ytlmflighkkgikaa
namespace Go.Proofs.Ytlmflighkkgikaa
open Go.RowKit
attribute [local go_sem ↓] Go.wp_at_zero Go.wp_at_succ
def argTo (f : Nat → Int) : Nat → Nat
 | 0 => 0
 | n + 1 => if f (argTo f n) < f (n + 1) then n + 1 else argTo f n
theorem argTo_le (f : Nat → Int) (n : Nat) : argTo f n ≤ n := by
 induction n with
 | zero => exact Nat.le_refl _
 | succ n ih => simp only [argTo]; split <;> omega
theorem argTo_max (f : Nat → Int) (n : Nat) : f (argTo f n) = maxTo f n := by
 induction n with
 | zero => rfl
 | succ n ih =>
   simp only [argTo, maxTo]
   rw [← ih]
   split <;> rfl
theorem argTo_first (f : Nat → Int) (n : Nat) : ∀ j, j < argTo f n → f j < maxTo f n := by
 induction n with
 | zero => intro j hj; simp [argTo] at hj
 | succ n ih =>
   intro j hj
   simp only [argTo] at hj
   have h1 := argTo_max f n
   by_cases e : f (argTo f n) < f (n + 1)
   · rw [if_pos e] at hj
     have h2 := maxTo_ge f n j (by omega)
     simp only [maxTo]
     rw [if_pos (by omega)]
     omega
   · rw [if_neg e] at hj
     have h2 := ih j hj
     simp only [maxTo]
     rw [if_neg (by omega)]
     exact h2
set_option maxRecDepth 100000 in
set_option maxHeartbeats 1000000 in
theorem indexint_any (n m : Nat) (x : Int) (f : Nat → Int) (v : Value) (w : World) (h : Ints w v n f) (hm : m < n) (he : f m = x) (hf : ∀ j, j < m → f j ≠ x) (hn : n ≤ 1000) :
   Calls Try.prog 83 #[v, .int .i64 x] w fun e w' => e = .returned (.int .i64 m) ∧ w' = w := by
 obtain ⟨aa, ca, rfl, ha1, ha2, ha3⟩ := h
 unfold maxLen at ha2
 obtain ⟨b1, o1, rfl, hlb1, hc1⟩ := ha3 (by omega)
 have Hc1 := hide hc1
 have Hf := hide hf
 have He := hide he
 clear hc1 ha3 hf he
 go_enter Try.func83, Try.ntmps83
 go_wp2
 go_loop [5, 8] (fun _ i => ∃ k : Nat, k ≤ m ∧ i = .int .i64 k) (fun _ i => n - (intOf i).toNat)
 case atStart => exact ⟨0, Nat.zero_le _, rfl⟩
 case round =>
   obtain ⟨k, hk, rfl⟩ := hrel
   have ck := Hc1.out k (by omega)
   have hkn : k < n := by omega
   by_cases hkm : k = m
   · have e : f k = x := by rw [hkm]; exact He.out
     rw [e] at ck
     have Hkm := hide hkm
     clear hkm e
     go_wp2
     go_ret
     exact ⟨ret_int (by rw [Hkm.out]), rfl⟩
   · have hne := Hf.out k (by omega)
     generalize f k = y at ck hne
     have hd : decide (x = y) = false := by simp; exact fun e => hne e.symm
     have hd2 : (x == y) = false := by simp; exact fun e => hne e.symm
     have hd3 : ¬ x = y := fun e => hne e.symm
     clear hne
     go_wp2
     go_round
     case rel => exact ⟨k + 1, by omega, by go_num⟩
     case measure => simp [intOf]; omega
theorem greatest_any (n : Nat) (f : Nat → Int) (v : Value) (w : World) (h : IntsT w v (n + 1) f) (hn : n + 1 ≤ 1000) :
   Calls Try.prog 68 #[v] w fun e w' => e = .returned (.int .i64 (argTo f n)) ∧ w' = w := by
 have hmax := max_any (n + 1) v f w h (by omega) hn
 have hix := indexint_any (n + 1) (argTo f n) (maxTo f n) f v w h.ints (by have := argTo_le f n; omega) (argTo_max f n) (fun j hj => by have := argTo_first f n j hj; omega) hn
 have e1 : topTo f (n + 1) = maxTo f n := rfl
 rw [e1] at hmax
 obtain ⟨a, c, rfl, _⟩ := h
 have Hmax := hide hmax
 have Hix := hide hix
 clear hmax hix e1
 go_enter Try.func68, Try.ntmps68
 go_wp2_with fail
 refine Calls_use Hmax.out ?_
 go_wp2_with fail
 refine Calls_use Hix.out ?_
 go_wp2
 go_ret
 exact ⟨rfl, rfl⟩
def nextOf (c : Cfg) (x : Nat → Int) : Nat := argTo (logitsOf c x) (c.vocab - 1)
theorem nextOf_lt (c : Cfg) (hc : c.ok) (x : Nat → Int) : nextOf c x < c.vocab := by
 have := argTo_le (logitsOf c x) (c.vocab - 1)
 have := hc.vocab.1
 unfold nextOf
 omega
set_option maxRecDepth 100000 in
set_option maxHeartbeats 1000000 in
theorem next_any (c : Cfg) (hc : c.ok) (M : Nat) (vx vE vH : Value) (bL oL cL : Nat) (x : Nat → Int) (w : World) (hM : ModelI w M c vE vH bL oL cL) (hx : IntsT w vx c.width x) (bx : ∀ j, -4095 ≤ x j ∧ x j ≤ 4095) :
   Calls Try.prog 55 #[.pointer (some ⟨M, 0, none⟩), vx] w fun e w' => e = .returned (.int .i64 (nextOf c x)) ∧ Below w.heap.size w w' := by
 obtain ⟨d1, d2⟩ := hc.vocab
 have hlo := dlogits_any c hc M vx vE vH bL oL cL x w hM hx bx
 have Hlo := hide hlo
 clear hlo hM hx
 go_enter Try.func55, Try.ntmps55
 go_wp2_with fail
 refine Hlo.out.mono ?_
 rintro e w1 ⟨b, rfl, ho, hb⟩
 have hgr := greatest_any (c.vocab - 1) (logitsOf c x) (.slice (some ⟨b, 0, none⟩) c.vocab c.vocab) w1 (by rw [show c.vocab - 1 + 1 = c.vocab by omega]; exact ho.ints) (by omega)
 have Hgr := hide hgr
 clear hgr ho Hlo
 go_wp2_with fail
 refine Calls_use Hgr.out ?_
 go_wp2
 go_ret
 exact ⟨rfl, hb⟩
end Go.Proofs.Ytlmflighkkgikaa
