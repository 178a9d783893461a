import Derived.Deep.AppendLies
import Derived.Test.YtaidjhlijadmiaaP04
import Derived.Test.YtaidjhlijadmiaaP05

/-
  The reference's plus.
-/
namespace Go.Proofs.Ytaidjhlijadmiaa
open Go.RowKit
attribute [local go_sem ↓] Go.wp_at_zero Go.wp_at_succ

/-- Two vectors' sum. -/
def plusOf (a b : Nat → Int) (i : Nat) : Int := cutI (a i + b i)

set_option maxRecDepth 100000 in
set_option maxHeartbeats 1000000 in
theorem refplus_any (n : Nat) (va vb : Value) (a b : Nat → Int) (w : World) (ha : Ints w va n a) (hb : Ints w vb n b) (hn : n ≤ 100) (ba : ∀ j, -4095 ≤ a j ∧ a j ≤ 4095) (bb : ∀ j, -4095 ≤ b j ∧ b j ≤ 4095) :
    Calls Try.prog 90 #[va, vb] w fun e w' =>
      ∃ r, e = .returned r ∧ w'.ownsRow w.heap.size 3 1 r n ((List.range n).map fun i => .int .i64 (plusOf a b i)) ∧ Below w.heap.size w w' := by
  obtain ⟨i0, hi, hz0, hz1, hz2⟩ := info_parts Try.info_int
  obtain ⟨aa, ca, rfl, ha1, ha2, ha3⟩ := ha
  obtain ⟨ab, cb, rfl, hb1, hb2, hb3⟩ := hb
  go_enter Try.func90, Try.ntmps90
  go_wp2
  go_loopw [5, 6] (fun o i wr => ∃ k : Nat, k ≤ n ∧ i = .int .i64 k ∧ wr.ownsRow w.heap.size 3 1 o k ((List.range k).map fun i => .int .i64 (plusOf a b i)) ∧ Below w.heap.size w wr) (fun _ i _ => n - (intOf i).toNat)
  case atStart => exact ⟨0, Nat.zero_le _, rfl, World.ownsRow_nil _ _ _ _, Below.refl _ _⟩
  case round =>
    obtain ⟨k, hk, rfl, hown, hbel⟩ := hrel
    by_cases hlt : k < n
    · obtain ⟨b1, o1, rfl, hlb1, hc1⟩ := ha3 (by omega)
      obtain ⟨b2, o2, rfl, hlb2, hc2⟩ := hb3 (by omega)
      have c1 := (hbel.cell (p := ⟨b1, o1 + k, none⟩) hlb1).trans (hc1 k hlt)
      have c2 := (hbel.cell (p := ⟨b2, o2 + k, none⟩) hlb2).trans (hc2 k hlt)
      obtain ⟨x1, x2⟩ := ba k
      obtain ⟨y1, y2⟩ := bb k
      have i1 : (0 : Int) ≤ (k : Int) := by omega
      have i2 : (k : Int) < (n : Int) := by omega
      have hsz := hbel.size
      have hwr : IntKind.i64.wrap (a k + b k) = a k + b k := wrap_in (by omega) (by omega)
      have hne : ∀ g, g < w.heap.size → some g ≠ u5.ownBlock := fun g hg h => by have := (hown.lt g h.symm).1; omega
      clear hc1 hc2 ha3 hb3
      go_wp2
      go_region_held3 (fun w' => w'.cell? ⟨b1, o1 + k, none⟩ = some (.int .i64 (a k)) ∧ w'.cell? ⟨b2, o2 + k, none⟩ = some (.int .i64 (b k)))
        (first
          | go_keep
          | (exact ⟨hgrow.cell ((World.cell?_alloc_past _ _ _ (by omega)).trans c1) (hne _ hlb1), hgrow.cell ((World.cell?_alloc_past _ _ _ (by omega)).trans c2) (hne _ hlb2)⟩))
        (first
          | (go_at_call 71; refine Calls_use (refcut_any _ _) ?_)
          | ((refine step_append_lies _ (by rfl) _ _ _ (by rfl) w.heap.size 3 i0 _ 1 8 Try.underlying36 hi hz0 hz1 hz2 rfl (by omega) u5 k _ (by rfl) ((hown.alloc _).drew) ⟨wr.heap.size, 0, none⟩ 1 1 [.int .i64 (plusOf a b k)] (by rfl) (by rfl) (one_new wr _ _) (one_int _) (by omega) (by unfold maxLen; omega) (by omega) (by simp; omega) (wr.heap.size + 1) (by simp) ?_); intro gg cap w1 hown1 hgrow hat hlt))
      have hbel' : Below w.heap.size w w1 := ((hbel.alloc hsz _).drew).grown hgrow (by simp; omega) (fun g hg => (hown.lt g hg).1)
      rw [← range_map_succ (fun i => Value.int .i64 (plusOf a b i))] at hown1
      clear hown hgrow hne
      go_wp2
      go_roundw
      case rel => exact ⟨k + 1, by omega, by go_num, hown1, hbel'⟩
      case measure => simp [intOf]; omega
    · have hkr : n = k := by omega
      subst hkr
      go_wp2
      go_ret
      exact ⟨_, rfl, hown, hbel⟩

end Go.Proofs.Ytaidjhlijadmiaa

/-
  The reference's turn.
-/
namespace Go.Proofs.Ytaidjhlijadmiaa
open Go.RowKit

/-- How far a pair is turned. -/
def turnBy (pairs p i : Nat) : Nat := p * (i / 2 % pairs + 1) % 4

/-- A vector, turned at a position. -/
def turnOf (pairs p : Nat) (v : Nat → Int) (i : Nat) : Int :=
  if turnBy pairs p i = 0 then v i
  else if turnBy pairs p i = 1 then (if i % 2 = 0 then -(v (i + 1)) else v (i - 1))
  else if turnBy pairs p i = 2 then -(v i)
  else (if i % 2 = 0 then v (i + 1) else -(v (i - 1)))

theorem turnBy_two (pairs p k : Nat) : turnBy pairs p (2 * k) = p * (k % pairs + 1) % 4 ∧ turnBy pairs p (2 * k + 1) = p * (k % pairs + 1) % 4 := by
  unfold turnBy
  rw [show 2 * k / 2 = k by omega, show (2 * k + 1) / 2 = k by omega]; exact ⟨rfl, rfl⟩

theorem turnOf_bd (pairs p : Nat) (v : Nat → Int) (bv : ∀ j, -4095 ≤ v j ∧ v j ≤ 4095) (i : Nat) : -4095 ≤ turnOf pairs p v i ∧ turnOf pairs p v i ≤ 4095 := by
  have h1 := bv i
  have h2 := bv (i + 1)
  have h3 := bv (i - 1)
  unfold turnOf
  split
  · exact h1
  · split
    · split <;> omega
    · split
      · omega
      · split <;> omega

theorem two_new (w : World) (x y : Value) (t : TypeId) : ∀ (j : Nat) (u : Value), [x, y][j]? = some u → (w.alloc (.cells #[x, y] t)).cell? ((⟨w.heap.size, 0, none⟩ : Addr).add j) = some u := by
  intro j u hj
  match j, hj with
  | 0, hj => simp at hj; subst hj; simp [Addr.add]
  | 1, hj => simp at hj; subst hj; simp [Addr.add]

theorem two_int (x y : Int) : ∀ u ∈ [Value.int .i64 x, Value.int .i64 y], u.oneCell' = true := by
  intro u hu; simp at hu; rcases hu with rfl | rfl <;> rfl

theorem range_map_two {α : Type} (f : Nat → α) (n : Nat) : (List.range (n + 2)).map f = (List.range n).map f ++ [f n, f (n + 1)] := by
  rw [range_map_succ, range_map_succ]; simp

set_option maxRecDepth 100000 in
set_option maxHeartbeats 1000000 in
theorem refturned_any (d n pairs p : Nat) (vv : Value) (v : Nat → Int) (w : World) (hd : d < w.heap.size) (hcP : w.cell? ⟨d, 4, none⟩ = some (.int .i64 pairs)) (hv : Ints w vv (2 * n) v)
    (hn : n ≤ 50) (hp1 : 1 ≤ pairs) (hp2 : pairs ≤ 2) (hp : p ≤ 1000) (bv : ∀ j, -4095 ≤ v j ∧ v j ≤ 4095) :
    Calls Try.prog 88 #[.pointer (some ⟨d, 0, none⟩), vv, .int .i64 p] w fun e w' =>
      ∃ r, e = .returned r ∧ w'.ownsRow w.heap.size 3 1 r (2 * n) ((List.range (2 * n)).map fun i => .int .i64 (turnOf pairs p v i)) ∧ Below w.heap.size w w' := by
  obtain ⟨i0, hi, hz0, hz1, hz2⟩ := info_parts Try.info_int
  obtain ⟨av, cv, rfl, hv1, hv2, hv3⟩ := hv
  go_enter Try.func88, Try.ntmps88
  go_wp2
  go_loopw [7, 8] (fun o i wr => ∃ k : Nat, k ≤ n ∧ i = .int .i64 (2 * (k : Int)) ∧ wr.ownsRow w.heap.size 3 1 o (2 * k) ((List.range (2 * k)).map fun i => .int .i64 (turnOf pairs p v i)) ∧ Below w.heap.size w wr) (fun _ i _ => 2 * n - (intOf i).toNat)
  case atStart => exact ⟨0, Nat.zero_le _, rfl, World.ownsRow_nil _ _ _ _, Below.refl _ _⟩
  case round =>
    obtain ⟨k, hk, rfl, hown, hbel⟩ := hrel
    by_cases hlt : k < n
    · obtain ⟨b1, o1, rfl, hlb1, hc1⟩ := hv3 (by omega)
      have c1 := (hbel.cell (p := ⟨b1, o1 + 2 * k, none⟩) hlb1).trans (hc1 (2 * k) (by omega))
      have c2 := (hbel.cell (p := ⟨b1, o1 + (2 * k + 1), none⟩) hlb1).trans (hc1 (2 * k + 1) (by omega))
      have c3 := (hbel.cell (p := ⟨d, 4, none⟩) hd).trans hcP
      obtain ⟨x1, x2⟩ := bv (2 * k)
      obtain ⟨y1, y2⟩ := bv (2 * k + 1)
      have hsz := hbel.size
      have e1 : (2 * (k : Int)) / 2 = k := by omega
      clear hc1 hv3 hcP bv
      have m1 : 0 ≤ (k : Int) % pairs := Int.emod_nonneg _ (by omega)
      have m2 : (k : Int) % pairs < pairs := Int.emod_lt_of_pos _ (by omega)
      have m3 : 0 ≤ (p : Int) * ((k : Int) % pairs + 1) := Int.mul_nonneg (by omega) (by omega)
      have m4 : (p : Int) * ((k : Int) % pairs + 1) ≤ 1000 * 2 := Int.mul_le_mul (by omega) (by omega) (by omega) (by omega)
      have hrc : (p : Int) * ((k : Int) % pairs + 1) % 4 = ((p * (k % pairs + 1) % 4 : Nat) : Int) := by simp
      have hr4 : p * (k % pairs + 1) % 4 = 0 ∨ p * (k % pairs + 1) % 4 = 1 ∨ p * (k % pairs + 1) % 4 = 2 ∨ p * (k % pairs + 1) % 4 = 3 := by omega
      rcases hr4 with hrN | hrN | hrN | hrN <;> rw [hrN] at hrc
      · have t1 : turnOf pairs p v (2 * k) = v (2 * k) := by unfold turnOf; rw [(turnBy_two pairs p k).1, hrN]; simp
        have t2 : turnOf pairs p v (2 * k + 1) = v (2 * k + 1) := by unfold turnOf; rw [(turnBy_two pairs p k).2, hrN]; simp; try omega
        have H1 := hide t1
        have H2 := hide t2
        clear t1 t2 hrN
        go_wp2_with (at_builtin; refine wpList_append_own _ rfl _ _ 36 rfl w.heap.size 3 i0 (.int .i64 0) 1 8 Try.underlying36 hi hz0 hz1 hz2 rfl (by decide) _ _ _ rfl (hown.alloc _) ⟨wr.heap.size, 0, none⟩ 2 2 [.int .i64 (v (2 * k)), .int .i64 (v (2 * k + 1))] rfl rfl ?c1 ?c2 ?c3 ?c4 ?c5 ?_)
        case c1 => exact two_new wr _ _ _
        case c2 => exact two_int _ _
        case c3 => unfold maxLen; omega
        case c4 => omega
        case c5 => simp; omega
        intro v' w1 hown' hgrow _
        have hbel' : Below w.heap.size w w1 := (hbel.alloc hsz _).grown hgrow (by simp; omega) (fun g hg => (hown.lt g hg).1)
        rw [← H1.out, ← H2.out, ← range_map_two (fun i => Value.int .i64 (turnOf pairs p v i))] at hown'
        clear hown hgrow H1 H2
        go_wp2
        go_roundw
        case rel => exact ⟨k + 1, by omega, by go_num, hown', hbel'⟩
        case measure => simp [intOf]; omega
      · have t1 : turnOf pairs p v (2 * k) = -(v (2 * k + 1)) := by unfold turnOf; rw [(turnBy_two pairs p k).1, hrN]; simp
        have t2 : turnOf pairs p v (2 * k + 1) = v (2 * k) := by unfold turnOf; rw [(turnBy_two pairs p k).2, hrN]; simp; try omega
        have H1 := hide t1
        have H2 := hide t2
        clear t1 t2 hrN
        go_wp2_with (at_builtin; refine wpList_append_own _ rfl _ _ 36 rfl w.heap.size 3 i0 (.int .i64 0) 1 8 Try.underlying36 hi hz0 hz1 hz2 rfl (by decide) _ _ _ rfl (hown.alloc _) ⟨wr.heap.size, 0, none⟩ 2 2 [.int .i64 (-(v (2 * k + 1))), .int .i64 (v (2 * k))] rfl rfl ?c1 ?c2 ?c3 ?c4 ?c5 ?_)
        case c1 => exact two_new wr _ _ _
        case c2 => exact two_int _ _
        case c3 => unfold maxLen; omega
        case c4 => omega
        case c5 => simp; omega
        intro v' w1 hown' hgrow _
        have hbel' : Below w.heap.size w w1 := (hbel.alloc hsz _).grown hgrow (by simp; omega) (fun g hg => (hown.lt g hg).1)
        rw [← H1.out, ← H2.out, ← range_map_two (fun i => Value.int .i64 (turnOf pairs p v i))] at hown'
        clear hown hgrow H1 H2
        go_wp2
        go_roundw
        case rel => exact ⟨k + 1, by omega, by go_num, hown', hbel'⟩
        case measure => simp [intOf]; omega
      · have t1 : turnOf pairs p v (2 * k) = -(v (2 * k)) := by unfold turnOf; rw [(turnBy_two pairs p k).1, hrN]; simp
        have t2 : turnOf pairs p v (2 * k + 1) = -(v (2 * k + 1)) := by unfold turnOf; rw [(turnBy_two pairs p k).2, hrN]; simp; try omega
        have H1 := hide t1
        have H2 := hide t2
        clear t1 t2 hrN
        go_wp2_with (at_builtin; refine wpList_append_own _ rfl _ _ 36 rfl w.heap.size 3 i0 (.int .i64 0) 1 8 Try.underlying36 hi hz0 hz1 hz2 rfl (by decide) _ _ _ rfl (hown.alloc _) ⟨wr.heap.size, 0, none⟩ 2 2 [.int .i64 (-(v (2 * k))), .int .i64 (-(v (2 * k + 1)))] rfl rfl ?c1 ?c2 ?c3 ?c4 ?c5 ?_)
        case c1 => exact two_new wr _ _ _
        case c2 => exact two_int _ _
        case c3 => unfold maxLen; omega
        case c4 => omega
        case c5 => simp; omega
        intro v' w1 hown' hgrow _
        have hbel' : Below w.heap.size w w1 := (hbel.alloc hsz _).grown hgrow (by simp; omega) (fun g hg => (hown.lt g hg).1)
        rw [← H1.out, ← H2.out, ← range_map_two (fun i => Value.int .i64 (turnOf pairs p v i))] at hown'
        clear hown hgrow H1 H2
        go_wp2
        go_roundw
        case rel => exact ⟨k + 1, by omega, by go_num, hown', hbel'⟩
        case measure => simp [intOf]; omega
      · have t1 : turnOf pairs p v (2 * k) = v (2 * k + 1) := by unfold turnOf; rw [(turnBy_two pairs p k).1, hrN]; simp
        have t2 : turnOf pairs p v (2 * k + 1) = -(v (2 * k)) := by unfold turnOf; rw [(turnBy_two pairs p k).2, hrN]; simp; try omega
        have H1 := hide t1
        have H2 := hide t2
        clear t1 t2 hrN
        go_wp2_with (at_builtin; refine wpList_append_own _ rfl _ _ 36 rfl w.heap.size 3 i0 (.int .i64 0) 1 8 Try.underlying36 hi hz0 hz1 hz2 rfl (by decide) _ _ _ rfl (hown.alloc _) ⟨wr.heap.size, 0, none⟩ 2 2 [.int .i64 (v (2 * k + 1)), .int .i64 (-(v (2 * k)))] rfl rfl ?c1 ?c2 ?c3 ?c4 ?c5 ?_)
        case c1 => exact two_new wr _ _ _
        case c2 => exact two_int _ _
        case c3 => unfold maxLen; omega
        case c4 => omega
        case c5 => simp; omega
        intro v' w1 hown' hgrow _
        have hbel' : Below w.heap.size w w1 := (hbel.alloc hsz _).grown hgrow (by simp; omega) (fun g hg => (hown.lt g hg).1)
        rw [← H1.out, ← H2.out, ← range_map_two (fun i => Value.int .i64 (turnOf pairs p v i))] at hown'
        clear hown hgrow H1 H2
        go_wp2
        go_roundw
        case rel => exact ⟨k + 1, by omega, by go_num, hown', hbel'⟩
        case measure => simp [intOf]; omega
    · have hkr : n = k := by omega
      subst hkr
      go_wp2
      go_ret
      exact ⟨_, rfl, hown, hbel⟩

end Go.Proofs.Ytaidjhlijadmiaa

/-
  The reference's decoder, made.
-/
namespace Go.Proofs.Ytaidjhlijadmiaa
open Go.RowKit
attribute [local go_sem ↓] Go.wp_at_zero Go.wp_at_succ

/-- A config that is one. -/
structure Cfg where
  blocks : Nat
  slots : Nat
  layers : Nat
  heads : Nat
  pairs : Nat
  vocab : Nat
  seed : Int

structure Cfg.ok (c : Cfg) : Prop where
  blocks : 1 ≤ c.blocks ∧ c.blocks ≤ 32
  slots : 1 ≤ c.slots ∧ c.slots ≤ 4
  layers : 1 ≤ c.layers ∧ c.layers ≤ 2
  heads : 1 ≤ c.heads ∧ c.heads ≤ 2
  pairs : 1 ≤ c.pairs ∧ c.pairs ≤ 2
  vocab : 2 ≤ c.vocab ∧ c.vocab ≤ 12
  seed : -9223372036854775808 ≤ c.seed ∧ c.seed ≤ 9223372036854775807

def Cfg.width (c : Cfg) : Nat := 2 * c.heads * c.pairs
def Cfg.seedU (c : Cfg) : Int := c.seed % 18446744073709551616
def Cfg.weight (c : Cfg) (n : Nat) : Int := weightI c.seedU n
def Cfg.many (c : Cfg) : Nat := 2 * c.vocab * c.width + c.layers * 8 * c.width * c.width
def Cfg.cells (c : Cfg) : List Value := [.int .i64 c.blocks, .int .i64 c.slots, .int .i64 c.layers, .int .i64 c.heads, .int .i64 c.pairs, .int .i64 c.vocab, .int .i64 c.seed]

theorem Cfg.width_bd {c : Cfg} (h : c.ok) : 2 ≤ c.width ∧ c.width ≤ 8 := by
  have h1 := h.heads
  have h2 := h.pairs
  unfold Cfg.width
  have a : c.heads = 1 ∨ c.heads = 2 := by omega
  rcases a with a | a <;> rw [a] <;> omega

theorem owns_slice {w : World} {base : Nat} {e : TypeId} {size : Nat} {v : Value} {n : Nat} {xs : List Value} (h : w.ownsRow base e size v n xs) : ∃ a c, v = .slice a n c := by
  obtain ⟨_, ⟨rfl, rfl⟩ | ⟨g, cap, cur, rfl, _⟩⟩ := h
  · exact ⟨_, _, rfl⟩
  · exact ⟨_, _, rfl⟩

theorem alloc_two (w : World) (o1 o2 : Obj) : ((w.alloc o1).alloc o2).heap[w.heap.size + 1]? = some o2 := by
  have := alloc_new (w.alloc o1) o2
  simpa using this

/-- The state ahead of the weight with the number k. -/
def stateI (s : Int) (k : Nat) : Int := (s + 11400714819323198485 * k) % 18446744073709551616
theorem stateI_zero (s : Int) : stateI s 0 = s % 18446744073709551616 := by simp [stateI]
theorem stateI_succ (s : Int) (k : Nat) : IntKind.u64.wrap (stateI s k + 11400714819323198485) = stateI s (k + 1) := by
  rw [u64_wrap]; unfold stateI; omega

set_option maxRecDepth 100000 in
set_option maxHeartbeats 1000000 in
theorem refmade_any (c : Cfg) (hc : c.ok) (w : World) :
    Calls Try.prog 41 #[.agg #[.int .i64 c.blocks, .int .i64 c.slots, .int .i64 c.layers, .int .i64 c.heads, .int .i64 c.pairs, .int .i64 c.vocab, .int .i64 c.seed]] w fun e w' =>
      ∃ vW, e = .returned (.pointer (some ⟨w.heap.size + 1, 0, none⟩)) ∧
        w'.heap[w.heap.size + 1]? = some (.cells (c.cells ++ [vW, .int .i64 c.width]).toArray 71 (0, 0)) ∧ w'.ownsRow (w.heap.size + 2) 3 1 vW c.many ((List.range c.many).map fun i => .int .i64 (c.weight i)) ∧ Below w.heap.size w w' := by
  obtain ⟨i0, hi, hz0, hz1, hz2⟩ := info_parts Try.info_int
  obtain ⟨w1, w2⟩ := c.width_bd hc
  obtain ⟨a1, a2⟩ := hc.heads
  obtain ⟨b1, b2⟩ := hc.pairs
  obtain ⟨d1, d2⟩ := hc.vocab
  obtain ⟨e1, e2⟩ := hc.layers
  obtain ⟨f1, f2⟩ := hc.seed
  have hwd : 2 * (c.heads : Int) * c.pairs = c.width := by unfold Cfg.width; simp
  have p1 : 0 ≤ 2 * (c.vocab : Int) * c.width := Int.mul_nonneg (by omega) (by omega)
  have p2 : 2 * (c.vocab : Int) * c.width ≤ 24 * 8 := Int.mul_le_mul (by omega) (by omega) (by omega) (by omega)
  have q1 : 0 ≤ (c.layers : Int) * 8 * c.width := Int.mul_nonneg (by omega) (by omega)
  have q2 : (c.layers : Int) * 8 * c.width ≤ 16 * 8 := Int.mul_le_mul (by omega) (by omega) (by omega) (by omega)
  have r1 : 0 ≤ (c.layers : Int) * 8 * c.width * c.width := Int.mul_nonneg q1 (by omega)
  have r2 : (c.layers : Int) * 8 * c.width * c.width ≤ 128 * 8 := Int.mul_le_mul (by omega) (by omega) (by omega) (by omega)
  have hmany : 2 * (c.vocab : Int) * c.width + (c.layers : Int) * 8 * c.width * c.width = c.many := by unfold Cfg.many; simp
  have hm : c.many ≤ 1216 := by omega
  go_enter Try.func41, Try.ntmps41
  go_wp2
  go_quiet (fail)
  go_wp2
  clear hwd hmany
  go_loopw [5, 6] (fun u i wr => ∃ k : Nat, ∃ o, k ≤ c.many ∧ i = .int .i64 k ∧ u = .int .u64 (stateI c.seedU k) ∧
      wr.heap[w.heap.size + 1]? = some (.cells (c.cells ++ [o, .int .i64 c.width]).toArray 71 (0, 0)) ∧
      wr.ownsRow (w.heap.size + 2) 3 1 o k ((List.range k).map fun i => .int .i64 (c.weight i)) ∧ Below w.heap.size w wr ∧ w.heap.size + 2 ≤ wr.heap.size) (fun _ i _ => c.many - (intOf i).toNat)
  case atStart =>
    refine ⟨0, .slice none 0 0, Nat.zero_le _, rfl, ?_, ?_, World.ownsRow_nil _ _ _ _, ?_, ?_⟩
    · rw [stateI_zero, u64_wrap]; unfold Cfg.seedU; simp
    · exact alloc_two w _ _
    · exact below_drewN (((Below.refl _ _).alloc (Nat.le_refl _) _).alloc (by simp) _) _
    · simp
  case round =>
    obtain ⟨k, o, hk, rfl, rfl, hblk, hown, hbel, hsz⟩ := hrel
    by_cases hlt : k < c.many
    · have c7 : wr.cell? ⟨w.heap.size + 1, 7, none⟩ = some o := by rw [cell_blk hblk]; rfl
      have f7 := frozen_blk hblk 7
      have hs := stateI_succ c.seedU k
      have hwk : c.weight k = mixI (stateI c.seedU (k + 1)) := by unfold Cfg.weight weightI stateI; simp
      have HW := hide hwk
      clear hwk
      go_wp2_with (at_builtin; refine wpList_append_own _ rfl _ _ 36 rfl (w.heap.size + 2) 3 i0 (.int .i64 0) 1 8 Try.underlying36 hi hz0 hz1 hz2 rfl (by decide) _ _ _ rfl (hown.alloc _) ⟨wr.heap.size, 0, none⟩ 1 1 [.int .i64 ?xx] rfl rfl ?c1 ?c2 ?c3 ?c4 ?c5 ?_)
      case c1 => exact one_new wr _ _
      case c2 => exact one_int _
      case c3 => unfold maxLen; omega
      case c4 => omega
      case c5 => simp; omega
      intro v' w1 hown' hgrow _
      rw [weight_wraps] at hown'
      have hown2 : w1.ownsRow (w.heap.size + 2) 3 1 v' (k + 1) ((List.range (k + 1)).map fun i => .int .i64 (c.weight i)) := by
        rw [range_map_succ (fun i => Value.int .i64 (c.weight i)), HW.out]; exact hown'
      have hne : some (w.heap.size + 1) ≠ o.ownBlock := fun h => by have := (hown.lt _ h.symm).1; omega
      have hblk1 := (hgrow.block (w.heap.size + 1) (by simp; omega) hne).trans ((alloc_old wr _ _ (by omega)).trans hblk)
      have hbel1 : Below w.heap.size w w1 := (hbel.alloc (by omega) _).grown hgrow (by simp; omega) (fun g hg => by have := (hown.lt g hg).1; omega)
      have hsz1 : w.heap.size + 2 ≤ w1.heap.size := by have := hgrow.size; simp at this; omega
      clear hown hown' hgrow HW c7 f7 hblk hbel
      obtain ⟨av, cv, rfl⟩ := owns_slice hown2
      have c7 : w1.cell? ⟨w.heap.size + 1, 7, none⟩ = some o := by rw [cell_blk hblk1]; rfl
      have f7 := frozen_blk hblk1 7
      go_wp2
      go_roundw
      case rel =>
        refine ⟨k + 1, _, by omega, by go_num, rfl, ?_, ownsRow_setCell_below hown2 (by show w.heap.size + 1 < w.heap.size + 2; omega) _, hbel1.setCell (by show w.heap.size ≤ w.heap.size + 1; omega) _, by simpa [World.setCell] using hsz1⟩
        rw [setCell_blk hblk1]; rfl
      case measure => simp [intOf]; omega
    · have hkr : c.many = k := by omega
      rw [← hkr] at hown ⊢
      go_wp2
      go_ret
      exact ⟨o, rfl, hblk, hown, hbel⟩

end Go.Proofs.Ytaidjhlijadmiaa
