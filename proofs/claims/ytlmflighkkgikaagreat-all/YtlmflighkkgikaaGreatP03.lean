import Derived.Test.YtlmflighkkgikaaGreatP02

namespace Go.Proofs.YtlmflighkkgikaaGreat
open Go.RowKit
def turnBy (pairs p i : Nat) : Nat := p * (i / 2 % pairs + 1) % 4
def turnOf (pairs p : Nat) (v : Nat → Int) (i : Nat) : Int :=
 if turnBy pairs p i = 0 then v i
 else if turnBy pairs p i = 1 then (if i % 2 = 0 then -(v (i + 1)) else v (i - 1))
 else if turnBy pairs p i = 2 then -(v i)
 else (if i % 2 = 0 then v (i + 1) else -(v (i - 1)))
theorem turnBy_two (pairs p k : Nat) : turnBy pairs p (2 * k) = p * (k % pairs + 1) % 4 ∧ turnBy pairs p (2 * k + 1) = p * (k % pairs + 1) % 4 := by
 unfold turnBy
 rw [show 2 * k / 2 = k by omega, show (2 * k + 1) / 2 = k by omega]; exact ⟨rfl, rfl⟩
theorem turnOf_bd (pairs p : Nat) (v : Nat → Int) (bv : ∀ j, -4095 ≤ v j ∧ v j ≤ 4095) (i : Nat) : -4095 ≤ turnOf pairs p v i ∧ turnOf pairs p v i ≤ 4095 := by
 have h1 := bv i
 have h2 := bv (i + 1)
 have h3 := bv (i - 1)
 unfold turnOf
 split
 · exact h1
 · split
   · split <;> omega
   · split
     · omega
     · split <;> omega
theorem two_new (w : World) (x y : Value) (t : TypeId) : ∀ (j : Nat) (u : Value), [x, y][j]? = some u → (w.alloc (.cells #[x, y] t)).cell? ((⟨w.heap.size, 0, none⟩ : Addr).add j) = some u := by
 intro j u hj
 match j, hj with
 | 0, hj => simp at hj; subst hj; simp [Addr.add]
 | 1, hj => simp at hj; subst hj; simp [Addr.add]
theorem two_int (x y : Int) : ∀ u ∈ [Value.int .i64 x, Value.int .i64 y], u.oneCell' = true := by
 intro u hu; simp at hu; rcases hu with rfl | rfl <;> rfl
theorem range_map_two {α : Type} (f : Nat → α) (n : Nat) : (List.range (n + 2)).map f = (List.range n).map f ++ [f n, f (n + 1)] := by
 rw [range_map_succ, range_map_succ]; simp
set_option maxRecDepth 100000 in
set_option maxHeartbeats 1000000 in
theorem refturned_any (d n pairs p : Nat) (vv : Value) (v : Nat → Int) (w : World) (hd : d < w.heap.size) (hcP : w.cell? ⟨d, 4, none⟩ = some (.int .i64 pairs)) (hv : Ints w vv (2 * n) v)
   (hn : n ≤ 50) (hp1 : 1 ≤ pairs) (hp2 : pairs ≤ 2) (hp : p ≤ 1000) (bv : ∀ j, -4095 ≤ v j ∧ v j ≤ 4095) :
   Calls Tryz.prog 98 #[.pointer (some ⟨d, 0, none⟩), vv, .int .i64 p] w fun e w' =>
     ∃ r, e = .returned r ∧ w'.ownsRow w.heap.size 3 1 r (2 * n) ((List.range (2 * n)).map fun i => .int .i64 (turnOf pairs p v i)) ∧ Below w.heap.size w w' := by
 obtain ⟨i0, hi, hz0, hz1, hz2⟩ := info_parts Tryz.info_int
 obtain ⟨av, cv, rfl, hv1, hv2, hv3⟩ := hv
 go_enter Tryz.func98, Tryz.ntmps98
 go_wp2
 go_loopw [7, 8] (fun o i wr => ∃ k : Nat, k ≤ n ∧ i = .int .i64 (2 * (k : Int)) ∧ wr.ownsRow w.heap.size 3 1 o (2 * k) ((List.range (2 * k)).map fun i => .int .i64 (turnOf pairs p v i)) ∧ Below w.heap.size w wr) (fun _ i _ => 2 * n - (intOf i).toNat)
 case atStart => exact ⟨0, Nat.zero_le _, rfl, World.ownsRow_nil _ _ _ _, Below.refl _ _⟩
 case round =>
   obtain ⟨k, hk, rfl, hown, hbel⟩ := hrel
   by_cases hlt : k < n
   · obtain ⟨b1, o1, rfl, hlb1, hc1⟩ := hv3 (by omega)
     have c1 := (hbel.cell (p := ⟨b1, o1 + 2 * k, none⟩) hlb1).trans (hc1 (2 * k) (by omega))
     have c2 := (hbel.cell (p := ⟨b1, o1 + (2 * k + 1), none⟩) hlb1).trans (hc1 (2 * k + 1) (by omega))
     have c3 := (hbel.cell (p := ⟨d, 4, none⟩) hd).trans hcP
     obtain ⟨x1, x2⟩ := bv (2 * k)
     obtain ⟨y1, y2⟩ := bv (2 * k + 1)
     have hsz := hbel.size
     have e1 : (2 * (k : Int)) / 2 = k := by omega
     clear hc1 hv3 hcP bv
     have m1 : 0 ≤ (k : Int) % pairs := Int.emod_nonneg _ (by omega)
     have m2 : (k : Int) % pairs < pairs := Int.emod_lt_of_pos _ (by omega)
     have m3 : 0 ≤ (p : Int) * ((k : Int) % pairs + 1) := Int.mul_nonneg (by omega) (by omega)
     have m4 : (p : Int) * ((k : Int) % pairs + 1) ≤ 1000 * 2 := Int.mul_le_mul (by omega) (by omega) (by omega) (by omega)
     have hrc : (p : Int) * ((k : Int) % pairs + 1) % 4 = ((p * (k % pairs + 1) % 4 : Nat) : Int) := by simp
     have hr4 : p * (k % pairs + 1) % 4 = 0 ∨ p * (k % pairs + 1) % 4 = 1 ∨ p * (k % pairs + 1) % 4 = 2 ∨ p * (k % pairs + 1) % 4 = 3 := by omega
     rcases hr4 with hrN | hrN | hrN | hrN <;> rw [hrN] at hrc
     · have t1 : turnOf pairs p v (2 * k) = v (2 * k) := by unfold turnOf; rw [(turnBy_two pairs p k).1, hrN]; simp
       have t2 : turnOf pairs p v (2 * k + 1) = v (2 * k + 1) := by unfold turnOf; rw [(turnBy_two pairs p k).2, hrN]; simp; try omega
       have H1 := hide t1
       have H2 := hide t2
       clear t1 t2 hrN
       go_wp2_with (at_builtin; refine wpList_append_own _ rfl _ _ 36 rfl w.heap.size 3 i0 (.int .i64 0) 1 8 Tryz.underlying36 hi hz0 hz1 hz2 rfl (by decide) _ _ _ rfl (hown.alloc _) ⟨wr.heap.size, 0, none⟩ 2 2 [.int .i64 (v (2 * k)), .int .i64 (v (2 * k + 1))] rfl rfl ?c1 ?c2 ?c3 ?c4 ?c5 ?_)
       case c1 => exact two_new wr _ _ _
       case c2 => exact two_int _ _
       case c3 => unfold maxLen; omega
       case c4 => omega
       case c5 => simp; omega
       intro v' w1 hown' hgrow _
       have hbel' : Below w.heap.size w w1 := (hbel.alloc hsz _).grown hgrow (by simp; omega) (fun g hg => (hown.lt g hg).1)
       rw [← H1.out, ← H2.out, ← range_map_two (fun i => Value.int .i64 (turnOf pairs p v i))] at hown'
       clear hown hgrow H1 H2
       go_wp2
       go_roundw
       case rel => exact ⟨k + 1, by omega, by go_num, hown', hbel'⟩
       case measure => simp [intOf]; omega
     · have t1 : turnOf pairs p v (2 * k) = -(v (2 * k + 1)) := by unfold turnOf; rw [(turnBy_two pairs p k).1, hrN]; simp
       have t2 : turnOf pairs p v (2 * k + 1) = v (2 * k) := by unfold turnOf; rw [(turnBy_two pairs p k).2, hrN]; simp; try omega
       have H1 := hide t1
       have H2 := hide t2
       clear t1 t2 hrN
       go_wp2_with (at_builtin; refine wpList_append_own _ rfl _ _ 36 rfl w.heap.size 3 i0 (.int .i64 0) 1 8 Tryz.underlying36 hi hz0 hz1 hz2 rfl (by decide) _ _ _ rfl (hown.alloc _) ⟨wr.heap.size, 0, none⟩ 2 2 [.int .i64 (-(v (2 * k + 1))), .int .i64 (v (2 * k))] rfl rfl ?c1 ?c2 ?c3 ?c4 ?c5 ?_)
       case c1 => exact two_new wr _ _ _
       case c2 => exact two_int _ _
       case c3 => unfold maxLen; omega
       case c4 => omega
       case c5 => simp; omega
       intro v' w1 hown' hgrow _
       have hbel' : Below w.heap.size w w1 := (hbel.alloc hsz _).grown hgrow (by simp; omega) (fun g hg => (hown.lt g hg).1)
       rw [← H1.out, ← H2.out, ← range_map_two (fun i => Value.int .i64 (turnOf pairs p v i))] at hown'
       clear hown hgrow H1 H2
       go_wp2
       go_roundw
       case rel => exact ⟨k + 1, by omega, by go_num, hown', hbel'⟩
       case measure => simp [intOf]; omega
     · have t1 : turnOf pairs p v (2 * k) = -(v (2 * k)) := by unfold turnOf; rw [(turnBy_two pairs p k).1, hrN]; simp
       have t2 : turnOf pairs p v (2 * k + 1) = -(v (2 * k + 1)) := by unfold turnOf; rw [(turnBy_two pairs p k).2, hrN]; simp; try omega
       have H1 := hide t1
       have H2 := hide t2
       clear t1 t2 hrN
       go_wp2_with (at_builtin; refine wpList_append_own _ rfl _ _ 36 rfl w.heap.size 3 i0 (.int .i64 0) 1 8 Tryz.underlying36 hi hz0 hz1 hz2 rfl (by decide) _ _ _ rfl (hown.alloc _) ⟨wr.heap.size, 0, none⟩ 2 2 [.int .i64 (-(v (2 * k))), .int .i64 (-(v (2 * k + 1)))] rfl rfl ?c1 ?c2 ?c3 ?c4 ?c5 ?_)
       case c1 => exact two_new wr _ _ _
       case c2 => exact two_int _ _
       case c3 => unfold maxLen; omega
       case c4 => omega
       case c5 => simp; omega
       intro v' w1 hown' hgrow _
       have hbel' : Below w.heap.size w w1 := (hbel.alloc hsz _).grown hgrow (by simp; omega) (fun g hg => (hown.lt g hg).1)
       rw [← H1.out, ← H2.out, ← range_map_two (fun i => Value.int .i64 (turnOf pairs p v i))] at hown'
       clear hown hgrow H1 H2
       go_wp2
       go_roundw
       case rel => exact ⟨k + 1, by omega, by go_num, hown', hbel'⟩
       case measure => simp [intOf]; omega
     · have t1 : turnOf pairs p v (2 * k) = v (2 * k + 1) := by unfold turnOf; rw [(turnBy_two pairs p k).1, hrN]; simp
       have t2 : turnOf pairs p v (2 * k + 1) = -(v (2 * k)) := by unfold turnOf; rw [(turnBy_two pairs p k).2, hrN]; simp; try omega
       have H1 := hide t1
       have H2 := hide t2
       clear t1 t2 hrN
       go_wp2_with (at_builtin; refine wpList_append_own _ rfl _ _ 36 rfl w.heap.size 3 i0 (.int .i64 0) 1 8 Tryz.underlying36 hi hz0 hz1 hz2 rfl (by decide) _ _ _ rfl (hown.alloc _) ⟨wr.heap.size, 0, none⟩ 2 2 [.int .i64 (v (2 * k + 1)), .int .i64 (-(v (2 * k)))] rfl rfl ?c1 ?c2 ?c3 ?c4 ?c5 ?_)
       case c1 => exact two_new wr _ _ _
       case c2 => exact two_int _ _
       case c3 => unfold maxLen; omega
       case c4 => omega
       case c5 => simp; omega
       intro v' w1 hown' hgrow _
       have hbel' : Below w.heap.size w w1 := (hbel.alloc hsz _).grown hgrow (by simp; omega) (fun g hg => (hown.lt g hg).1)
       rw [← H1.out, ← H2.out, ← range_map_two (fun i => Value.int .i64 (turnOf pairs p v i))] at hown'
       clear hown hgrow H1 H2
       go_wp2
       go_roundw
       case rel => exact ⟨k + 1, by omega, by go_num, hown', hbel'⟩
       case measure => simp [intOf]; omega
   · have hkr : n = k := by omega
     subst hkr
     go_wp2
     go_ret
     exact ⟨_, rfl, hown, hbel⟩
end Go.Proofs.YtlmflighkkgikaaGreat
