import Derived.Test.YtlmflighkkgikaaP03
import Derived.Test.YtlmflighkkgikaaP15

namespace Go.Proofs.Ytlmflighkkgikaa
open Go.RowKit
theorem range_map_add {α : Type} (f : Nat → α) (a b : Nat) : (List.range (a + b)).map f = (List.range a).map f ++ (List.range b).map (fun i => f (a + i)) := by
 rw [List.range_add, List.map_append, List.map_map]; rfl
theorem att_at (c : Cfg) (p h i : Nat) (q : Nat → Int) (kf vf : Nat → Nat → Int) (hi : i < 2 * c.pairs) :
   attOf c p q kf vf (h * (2 * c.pairs) + i) = headAt p (fun t => scoreOf (h * (2 * c.pairs)) (2 * c.pairs) q (kf t)) (fun t => vf t (h * (2 * c.pairs) + i)) := by
 unfold attOf
 rw [show (h * (2 * c.pairs) + i) / (2 * c.pairs) = h from by
   rw [Nat.mul_comm, Nat.mul_add_div (by omega), Nat.div_eq_of_lt hi, Nat.add_zero]]
theorem owns_below {w w' : World} {base : Nat} {e : TypeId} {size : Nat} {v : Value} {n : Nat} {xs : List Value} (h : w.ownsRow base e size v n xs) (hb : Below w.heap.size w w') : w'.ownsRow base e size v n xs := by
 obtain ⟨h1, h2 | ⟨g, cap, cur, e', hg, hh, rest⟩⟩ := h
 · exact ⟨h1, .inl h2⟩
 · exact ⟨h1, .inr ⟨g, cap, cur, e', hg, by rw [hb.block g (lt_blk hh)]; exact hh, rest⟩⟩
theorem Mems.below {w w' : World} {v : Value} {n m : Nat} {kf vf : Nat → Nat → Int} (h : Mems w v n m kf vf) (hb : Below w.heap.size w w') : Mems w' v n m kf vf := by
 obtain ⟨a, c, rfl, h1, h2, h3⟩ := h
 refine ⟨a, c, rfl, h1, h2, fun hn => ?_⟩
 obtain ⟨b, off, rfl, hlt, hc⟩ := h3 hn
 refine ⟨b, off, rfl, Nat.lt_of_lt_of_le hlt hb.size, fun t ht => ?_⟩
 obtain ⟨vk, vv, d1, d2, d3, d4⟩ := hc t ht
 exact ⟨vk, vv, (hb.cell (p := ⟨b, off + t * 2, none⟩) hlt).trans d1, (hb.cell (p := ⟨b, off + t * 2 + 1, none⟩) hlt).trans d2, d3.keep (KeepT.of_below hb), d4.keep (KeepT.of_below hb)⟩
theorem IntsT.news {w : World} {b off n c : Nat} {g : Nat → Int} (h : IntsT w (.slice (some ⟨b, off, none⟩) n c) n g) :
   ∀ (j : Nat) (u : Value), ((List.range n).map fun i => Value.int .i64 (g i))[j]? = some u → w.cell? ((⟨b, off, none⟩ : Addr).add j) = some u := by
 intro j u hj
 have hlt : j < n := by
   have := (List.getElem?_eq_some_iff.1 hj).1
   simpa using this
 have e : (⟨b, off, none⟩ : Addr).add j = ⟨b, off + j, none⟩ := by unfold Addr.add; split <;> simp_all
 rw [e, h.cell j hlt]
 simpa [hlt] using hj
theorem ints_one (n : Nat) (g : Nat → Int) : ∀ u ∈ (List.range n).map (fun i => Value.int .i64 (g i)), u.oneCell' = true := by
 intro u hu
 simp at hu
 obtain ⟨_, _, rfl⟩ := hu
 rfl
set_option maxRecDepth 100000 in
set_option maxHeartbeats 1000000 in
theorem dattend_any (c : Cfg) (hc : c.ok) (M n : Nat) (vq vs : Value) (q : Nat → Int) (kf vf : Nat → Nat → Int) (w : World) (_hM : M < w.heap.size) (hP : w.cell? ⟨M, 0, none⟩ = some (.int .i64 c.pairs)) (hq : IntsT w vq c.width q) (hs : Mems w vs n c.width kf vf)
   (hn1 : 1 ≤ n) (hn : n ≤ 1000) (bq : ∀ j, -4095 ≤ q j ∧ q j ≤ 4095) (bk : ∀ t j, -4095 ≤ kf t j ∧ kf t j ≤ 4095) (bv : ∀ t j, -4095 ≤ vf t j ∧ vf t j ≤ 4095) :
   Calls Try.prog 73 #[.pointer (some ⟨M, 0, none⟩), vq, vs] w fun e w' =>
     ∃ r, e = .returned r ∧ IntsT w' r c.width (attOf c (n - 1) q kf vf) ∧ Below w.heap.size w w' := by
 obtain ⟨i0, hi, hz0, hz1, hz2⟩ := info_parts Try.info_int
 obtain ⟨w1, w2⟩ := c.width_bd hc
 obtain ⟨a1, a2⟩ := hc.heads
 obtain ⟨b1, b2⟩ := hc.pairs
 have hwd : c.width = c.heads * (2 * c.pairs) := by unfold Cfg.width; rw [Nat.mul_comm 2, Nat.mul_assoc]
 have Hwd := hide hwd
 clear hwd
 obtain ⟨aq, cq, eq, hq1, hq3⟩ := hq.at
 subst eq
 clear hq3
 go_enter Try.func73, Try.ntmps73
 go_wp2_with (at_make; refine wpList_make_own _ rfl _ _ 24 rfl w.heap.size 3 i0 (.int .i64 0) 1 Try.underlying24 hi hz0 hz1 _ _ _ c.width rfl rfl (by omega) (by rw [hz2]; omega) (by unfold maxLen; omega) (Nat.le_refl _) ?_; intro W1 hown1 hgrow1)
 have hbel1 : Below w.heap.size w W1 := (Below.refl _ _).grown hgrow1 (Nat.le_refl _) (fun k hk => by cases hk)
 go_wp2
 go_loopw [8, 9] (fun o i wr => ∃ h fr : Nat, h ≤ c.heads ∧ Hid (fr = h * (2 * c.pairs)) ∧ i = .int .i64 fr ∧ wr.ownsRow w.heap.size 3 1 o fr ((List.range fr).map fun i => .int .i64 (attOf c (n - 1) q kf vf i)) ∧ Below w.heap.size w wr) (fun _ i _ => c.width - (intOf i).toNat)
 case atStart => exact ⟨0, 0, by omega, by show 0 = 0 * _; simp, rfl, hown1, hbel1⟩
 case round =>
   clear hown1 hgrow1 hbel1
   obtain ⟨h, fr, hh, Hfr, rfl, hown, hbel⟩ := hrel
   have hsz := hbel.size
   by_cases hlt : h < c.heads
   · have hfit : fr + 2 * c.pairs ≤ c.width := by
       have := Nat.mul_le_mul_right (2 * c.pairs) (show h + 1 ≤ c.heads from hlt)
       rw [Nat.add_mul] at this
       rw [Hwd.out, Hfr.out]; omega
     have hqr := hq.keep (KeepT.of_below hbel)
     have hsr := hs.below hbel
     have hd := dhead_any n c.width fr (2 * c.pairs) _ vs q kf vf wr hqr hsr hn1 hn (by omega) (by omega) (by omega) hfit bq bk bv
     rw [show (((2 * c.pairs : Nat)) : Int) = 2 * (c.pairs : Int) by simp] at hd
     have Hd := hide hd
     clear hd hqr hsr
     go_wp2_with fail
     refine Hd.out.mono ?_
     rintro e w3 ⟨r, rfl, hr, hb3⟩
     obtain ⟨ar, cr, er, hr1, hr3⟩ := hr.at
     subst er
     obtain ⟨br, or', er2, hbr, _⟩ := hr3 (by omega)
     subst er2
     have hown3 := owns_below hown hb3
     have hbel3 := hbel.trans (hb3.mono hsz)
     have hsz3 := hbel3.size
     clear hr3 Hd
     go_wp2_with (at_builtin; refine wpList_append_own _ rfl _ _ 24 rfl w.heap.size 3 i0 (.int .i64 0) 1 8 Try.underlying24 hi hz0 hz1 hz2 rfl (by decide) _ _ _ rfl hown3 ⟨br, or', none⟩ (2 * c.pairs) cr ((List.range (2 * c.pairs)).map fun i => .int .i64 (headAt (n - 1) (fun t => scoreOf fr (2 * c.pairs) q (kf t)) (fun t => vf t (fr + i)))) rfl (by simp) hr.news (ints_one _ _) (by unfold maxLen; omega) (by omega) hsz3 ?_; intro v' w4 hown' hgrow _)
     have hbel4 : Below w.heap.size w w4 := hbel3.grown hgrow hsz3 (fun g hg => (hown3.lt g hg).1)
     have e1 : ((List.range (2 * c.pairs)).map fun i => Value.int .i64 (headAt (n - 1) (fun t => scoreOf fr (2 * c.pairs) q (kf t)) (fun t => vf t (fr + i)))) = (List.range (2 * c.pairs)).map (fun i => (fun i => Value.int .i64 (attOf c (n - 1) q kf vf i)) (fr + i)) := by
       apply List.map_congr_left
       intro i hi
       have := List.mem_range.1 hi
       show _ = Value.int .i64 (attOf c (n - 1) q kf vf (fr + i))
       have ef := Hfr.out
       subst ef
       rw [att_at c (n - 1) h i q kf vf this]
     rw [e1, ← range_map_add] at hown'
     clear hown hown3 hgrow e1 hr
     go_wp2
     go_roundw
     case rel => exact ⟨h + 1, fr + 2 * c.pairs, by omega, by show fr + 2 * c.pairs = (h + 1) * (2 * c.pairs); rw [Nat.add_mul, Hfr.out]; omega, by go_num, hown', hbel4⟩
     case measure => simp [intOf]; omega
   · have hhe : h = c.heads := by omega
     have hfw : fr = c.width := by rw [Hwd.out, Hfr.out, hhe]
     subst hfw
     go_wp2
     go_ret
     exact ⟨_, rfl, IntsT.of_owns hown, hbel⟩
end Go.Proofs.Ytlmflighkkgikaa
namespace Go.Proofs.Ytlmflighkkgikaa
open Go.RowKit
attribute [local go_sem ↓] Go.wp_at_zero Go.wp_at_succ
set_option maxRecDepth 100000 in
set_option maxHeartbeats 400000 in
theorem power_any (n : Nat) (w : World) (hn : n ≤ 100000) :
   Calls Try.prog 85 #[.int .i64 n] w fun e w' => e = .returned (.complex .f64 (pwR (n % 4)) (pwI (n % 4))) ∧ w' = w := by
 have hrc : (n : Int) % 4 = ((n % 4 : Nat) : Int) := by simp
 have hr4 : n % 4 < 4 := by omega
 generalize n % 4 = r at hrc hr4
 go_enter Try.func85, Try.ntmps85
 go_wp2
 go_loop [3, 6] (fun z i => ∃ k : Nat, k ≤ r ∧ i = .int .i64 k ∧ z = .complex .f64 (pwR k) (pwI k)) (fun _ i => r - (intOf i).toNat)
 case atStart => exact ⟨0, by omega, rfl, rfl⟩
 case round =>
   obtain ⟨k, hk, rfl, rfl⟩ := hrel
   by_cases hlt : k < r
   · have hm := fun w => run_complex_mul (P := Try.prog) w 139 _ _ _ _ _ _ (pw_next k (by omega))
     generalize pwR k = x at hm ⊢
     generalize pwI k = y at hm ⊢
     go_wp2
     go_round
     case rel => exact ⟨k + 1, by omega, by go_num, rfl⟩
     case measure => simp [intOf]; omega
   · have hkr : r = k := by omega
     subst hkr
     go_wp2
     go_ret
     exact ⟨rfl, rfl⟩
theorem turnOf_two (pairs p k : Nat) (v : Nat → Int) : turnOf pairs p v (2 * k) = tX (p * (k % pairs + 1) % 4) (v (2 * k)) (v (2 * k + 1)) ∧ turnOf pairs p v (2 * k + 1) = tY (p * (k % pairs + 1) % 4) (v (2 * k)) (v (2 * k + 1)) := by
 have h4 : p * (k % pairs + 1) % 4 = 0 ∨ p * (k % pairs + 1) % 4 = 1 ∨ p * (k % pairs + 1) % 4 = 2 ∨ p * (k % pairs + 1) % 4 = 3 := by omega
 unfold turnOf
 rw [(turnBy_two pairs p k).1, (turnBy_two pairs p k).2]
 have e2 : (2 * k + 1) % 2 = 1 := by omega
 rcases h4 with h | h | h | h <;> rw [h] <;> simp [tX, tY, e2]
set_option maxRecDepth 100000 in
set_option maxHeartbeats 1000000 in
theorem dturn_own (n pairs p : Nat) (vv : Value) (v : Nat → Int) (w : World) (hv : IntsT w vv (2 * n) v) (hn1 : 1 ≤ n) (hn : n ≤ 50) (hp1 : 1 ≤ pairs) (hp2 : pairs ≤ 2) (hp : p ≤ 1000) (bv : ∀ j, -4095 ≤ v j ∧ v j ≤ 4095) :
   Calls Try.prog 70 #[vv, .int .i64 p, .int .i64 pairs] w fun e w' =>
     ∃ r, e = .returned r ∧ w'.ownsRow w.heap.size 3 1 r (2 * n) ((List.range (2 * n)).map fun i => .int .i64 (turnOf pairs p v i)) ∧ Below w.heap.size w w' := by
 obtain ⟨i0, hi, hz0, hz1, hz2⟩ := info_parts Try.info_int
 obtain ⟨av, cv, rfl, hv1, hv3⟩ := hv.at
 obtain ⟨b1, o1, rfl, hlb1, hc1⟩ := hv3 (by omega)
 have Hc1 := hide hc1
 clear hv3 hv hc1
 go_enter Try.func70, Try.ntmps70
 go_wp2_with (at_make; refine wpList_make_own _ rfl _ _ 24 rfl w.heap.size 3 i0 (.int .i64 0) 1 Try.underlying24 hi hz0 hz1 _ _ _ (2 * n) rfl rfl (by omega) (by rw [hz2]; omega) (by unfold maxLen; omega) (Nat.le_refl _) ?_; intro W1 hown1 hgrow1)
 have hbel1 : Below w.heap.size w W1 := (Below.refl _ _).grown hgrow1 (Nat.le_refl _) (fun k hk => by cases hk)
 go_wp2
 go_loopw [7, 8] (fun o i wr => ∃ k : Nat, k ≤ n ∧ i = .int .i64 (2 * (k : Int)) ∧ wr.ownsRow w.heap.size 3 1 o (2 * k) ((List.range (2 * k)).map fun i => .int .i64 (turnOf pairs p v i)) ∧ Below w.heap.size w wr) (fun _ i _ => 2 * n - (intOf i).toNat)
 case atStart => exact ⟨0, Nat.zero_le _, rfl, hown1, hbel1⟩
 case round =>
   clear hown1 hgrow1 hbel1
   obtain ⟨k, hk, rfl, hown, hbel⟩ := hrel
   by_cases hlt : k < n
   · have c1 := (hbel.cell (p := ⟨b1, o1 + 2 * k, none⟩) hlb1).trans (Hc1.out (2 * k) (by omega))
     have c2 := (hbel.cell (p := ⟨b1, o1 + (2 * k + 1), none⟩) hlb1).trans (Hc1.out (2 * k + 1) (by omega))
     have hsz := hbel.size
     have e1 : (2 * (k : Int)) / 2 = k := by omega
     have m1 : 0 ≤ (k : Int) % pairs := Int.emod_nonneg _ (by omega)
     have m2 : (k : Int) % pairs < pairs := Int.emod_lt_of_pos _ (by omega)
     have m3 : 0 ≤ (p : Int) * ((k : Int) % pairs + 1) := Int.mul_nonneg (by omega) (by omega)
     have m4 : (p : Int) * ((k : Int) % pairs + 1) ≤ 1000 * 2 := Int.mul_le_mul (by omega) (by omega) (by omega) (by omega)
     have x1 : IntKind.i64.wrap ((k : Int) % pairs + 1) = (k : Int) % pairs + 1 := wrap_in (by omega) (by omega)
     have x2 : IntKind.i64.wrap ((p : Int) * ((k : Int) % pairs + 1)) = (p : Int) * ((k : Int) % pairs + 1) := wrap_in (by omega) (by omega)
     have x3 : IntKind.i64.wrap (2 * (k : Int) + 1) = 2 * (k : Int) + 1 := wrap_in (by omega) (by omega)
     have hnat : p * (k % pairs + 1) ≤ 100000 := by
       have : p * (k % pairs + 1) ≤ 1000 * 2 := Nat.mul_le_mul (by omega) (by have := Nat.mod_lt k (show 0 < pairs by omega); omega)
       omega
     obtain ⟨re, im, hmul, hre, him⟩ := turn_bits (p * (k % pairs + 1) % 4) (by omega) (v (2 * k)) (v (2 * k + 1)) (bv _) (bv _)
     have HT := hide (turnOf_two pairs p k v)
     rw [← HT.out.1] at hre
     rw [← HT.out.2] at him
     have hm := fun w => run_complex_mul (P := Try.prog) w 139 _ _ _ _ _ _ hmul
     have hcr := fun w => run_convert_float_int (P := Try.prog) w 140 3 .f64 .i64 re _ (by rfl) Try.underlying3 hre
     have hci := fun w => run_convert_float_int (P := Try.prog) w 140 3 .f64 .i64 im _ (by rfl) Try.underlying3 him
     have Hnat := hide hnat
     have HP : Hid (∀ w, Calls Try.prog 85 #[.int .i64 ((p : Int) * ((k : Int) % pairs + 1))] w fun e w' => e = .returned (.complex .f64 (pwR (p * (k % pairs + 1) % 4)) (pwI (p * (k % pairs + 1) % 4))) ∧ w' = w) := fun w => by
       have h := power_any (p * (k % pairs + 1)) w hnat
       rw [show (((p * (k % pairs + 1) : Nat)) : Int) = (p : Int) * ((k : Int) % pairs + 1) by simp] at h
       exact h
     clear hmul hre him hnat
     generalize pwR (p * (k % pairs + 1) % 4) = pr at hm HP
     generalize pwI (p * (k % pairs + 1) % 4) = pi at hm HP
     go_wp2
     go_quiet ((go_at_call 85; exact Calls.quiet_of_same (HP.out _)))
     go_wp2_with (at_builtin; refine wpList_append_own _ rfl _ _ 24 rfl w.heap.size 3 i0 (.int .i64 0) 1 8 Try.underlying24 hi hz0 hz1 hz2 rfl (by decide) _ _ _ rfl ((owns_drewN hown _).alloc _) ⟨wr.heap.size, 0, none⟩ 2 2 [.int .i64 (turnOf pairs p v (2 * k)), .int .i64 (turnOf pairs p v (2 * k + 1))] rfl rfl ?c1 ?c2 ?c3 ?c4 ?c5 ?_)
     case c1 => exact two_new (wr.drewN _) _ _ _
     case c2 => exact two_int _ _
     case c3 => unfold maxLen; omega
     case c4 => omega
     case c5 => simp; omega
     intro v' w1 hown' hgrow _
     have hbel' : Below w.heap.size w w1 := ((below_drewN hbel _).alloc (by simp; omega) _).grown hgrow (by simp; omega) (fun g hg => (hown.lt g hg).1)
     rw [← range_map_two (fun i => Value.int .i64 (turnOf pairs p v i))] at hown'
     clear hown hgrow hm hcr hci c1 c2
     go_wp2
     go_roundw
     case rel => exact ⟨k + 1, by omega, by go_num, hown', hbel'⟩
     case measure => simp [intOf]; omega
   · have hkr : n = k := by omega
     subst hkr
     go_wp2
     go_ret
     exact ⟨_, rfl, hown, hbel⟩
theorem dturn_any (n pairs p : Nat) (vv : Value) (v : Nat → Int) (w : World) (hv : IntsT w vv (2 * n) v) (hn1 : 1 ≤ n) (hn : n ≤ 50) (hp1 : 1 ≤ pairs) (hp2 : pairs ≤ 2) (hp : p ≤ 1000) (bv : ∀ j, -4095 ≤ v j ∧ v j ≤ 4095) :
   Calls Try.prog 70 #[vv, .int .i64 p, .int .i64 pairs] w fun e w' =>
     ∃ r, e = .returned r ∧ IntsT w' r (2 * n) (turnOf pairs p v) ∧ Below w.heap.size w w' :=
 (dturn_own n pairs p vv v w hv hn1 hn hp1 hp2 hp bv).mono (by rintro e w' ⟨r, rfl, hr, hb⟩; exact ⟨r, rfl, IntsT.of_owns hr, hb⟩)
def Past (w : World) (v : Value) (n L m : Nat) (kf vf : Nat → Nat → Nat → Int) : Prop :=
 ∃ cs, Row w v n cs ∧ ∀ t, t < n → Mems w (cs t) L m (kf t) (vf t)
theorem Past.below {w w' : World} {v : Value} {n L m : Nat} {kf vf : Nat → Nat → Nat → Int} (h : Past w v n L m kf vf) (hb : Below w.heap.size w w') : Past w' v n L m kf vf := by
 obtain ⟨cs, h1, h2⟩ := h
 exact ⟨cs, h1.below hb, fun t ht => (h2 t ht).below hb⟩
theorem Try.info_mem : (Try.prog.info? 113).map (fun i => (i.zero, i.size, i.bytes)) = some (some (.agg #[.slice none 0 0, .slice none 0 0]), 2, 48) := by kernel_rfl
theorem Mems.of_owns {w : World} {base n m : Nat} {v : Value} {F : Nat → Value} {kf vf : Nat → Nat → Int} (h : w.ownsRow base 113 2 v n ((List.range (n * 2)).map F))
   (hk : ∀ t, t < n → IntsT w (F (t * 2)) m (kf t)) (hv : ∀ t, t < n → IntsT w (F (t * 2 + 1)) m (vf t)) : Mems w v n m kf vf := by
 obtain ⟨_, ⟨rfl, rfl⟩ | ⟨g, cap, cur, rfl, hb, hg, hn, hm, hs, ht⟩⟩ := h
 · exact ⟨none, 0, rfl, Nat.le_refl _, by simp [maxLen], fun h => absurd h (by omega)⟩
 · have cell : ∀ j, j < n * 2 → w.cell? ⟨g, 0 + j, none⟩ = some (F j) := fun j hj => by
     have h1 := congrArg (fun l => l[j]?) ht
     simp [hj] at h1
     rw [cell_blk hg]; simpa using h1
   refine ⟨_, cap, rfl, hn, hm, fun _ => ⟨g, 0, rfl, lt_blk hg, fun t ht => ⟨F (t * 2), F (t * 2 + 1), cell _ (by omega), ?_, hk t ht, hv t ht⟩⟩⟩
   have := cell (t * 2 + 1) (by omega)
   simpa [Nat.add_assoc] using this
theorem owns_of_row {w : World} {b n size base : Nat} {e : TypeId} {f : Nat → Value} (h : w.rowIs b e (n * size) f) (hb : base ≤ b) (hn : n ≤ maxLen) : w.ownsRow base e size (.slice (some ⟨b, 0, none⟩) n n) n ((List.range (n * size)).map f) := by
 obtain ⟨c, h1, h2, h3⟩ := h
 refine ⟨by simp, .inr ⟨b, n, c, rfl, hb, h1, Nat.le_refl _, hn, h2, ?_⟩⟩
 apply List.ext_getElem?
 intro i
 by_cases hi : i < n * size
 · rw [List.getElem?_take_of_lt hi]
   have := h3 i hi
   simp [hi]
   simpa using this
 · rw [List.getElem?_eq_none (by simp; omega), List.getElem?_eq_none (by simp; omega)]
def paired (G : Nat → Value × Value) (k j : Nat) : Value := if j < k * 2 then (if j % 2 = 0 then (G (j / 2)).1 else (G (j / 2)).2) else .slice none 0 0
set_option maxRecDepth 100000 in
set_option maxHeartbeats 1000000 in
theorem oflayer_any (n L m l : Nat) (vp : Value) (kf vf : Nat → Nat → Nat → Int) (w : World) (hp : Past w vp n L m kf vf) (hl : l < L) (hL : L ≤ 10) (hn : n ≤ 1000) :
   Calls Try.prog 71 #[vp, .int .i64 l] w fun e w' =>
     ∃ F, e = .returned (.slice (some ⟨w.heap.size, 0, none⟩) n n) ∧ w'.ownsRow w.heap.size 113 2 (.slice (some ⟨w.heap.size, 0, none⟩) n n) n ((List.range (n * 2)).map F) ∧
       (∀ t, t < n → IntsT w (F (t * 2)) m (fun i => kf t l i)) ∧ (∀ t, t < n → IntsT w (F (t * 2 + 1)) m (fun i => vf t l i)) ∧ Below w.heap.size w w' := by
 obtain ⟨i0, hi, hz0, hz1, hz2⟩ := info_parts Try.info_mem
 obtain ⟨cs, ⟨aa, ca, rfl, ha1, _, ha3⟩, hcs⟩ := hp
 have hmk := fun w => run_make (P := Try.prog) w 104 113 i0 _ Try.underlying104 hi hz0 .i64 .i64 n n (by omega) (Int.le_refl _) (by rw [hz2]; omega) (by omega)
 rw [hz1] at hmk
 have hex : ∀ t, ∃ q : Value × Value, t < n → ∃ b off c, cs t = .slice (some ⟨b, off, none⟩) L c ∧ b < w.heap.size ∧ w.cell? ⟨b, off + l * 2, none⟩ = some q.1 ∧ w.cell? ⟨b, off + l * 2 + 1, none⟩ = some q.2 ∧ IntsT w q.1 m (kf t l) ∧ IntsT w q.2 m (vf t l) := fun t => by
   by_cases ht : t < n
   · obtain ⟨a, c, e, _, _, h3⟩ := hcs t ht
     obtain ⟨b, off, rfl, hb, hc⟩ := h3 (by omega)
     obtain ⟨vk, vv, d1, d2, d3, d4⟩ := hc l hl
     exact ⟨(vk, vv), fun _ => ⟨b, off, c, e, hb, d1, d2, d3, d4⟩⟩
   · exact ⟨(undef, undef), fun h => absurd h ht⟩
 obtain ⟨G, hG⟩ : ∃ G : Nat → Value × Value, ∀ t, t < n → ∃ b off c, cs t = .slice (some ⟨b, off, none⟩) L c ∧ b < w.heap.size ∧ w.cell? ⟨b, off + l * 2, none⟩ = some (G t).1 ∧ w.cell? ⟨b, off + l * 2 + 1, none⟩ = some (G t).2 ∧ IntsT w (G t).1 m (kf t l) ∧ IntsT w (G t).2 m (vf t l) :=
   ⟨fun t => (hex t).choose, fun t => (hex t).choose_spec⟩
 have HG := hide hG
 have Ha3 := hide ha3
 clear hex hG ha3 hcs
 go_enter Try.func71, Try.ntmps71
 go_wp2
 clear hmk
 go_loopw [13] (fun i wr => ∃ k : Nat, k ≤ n ∧ i = .int .i64 k ∧ wr.rowIs w.heap.size 113 (n * 2) (paired G k) ∧ Below w.heap.size w wr) (fun i _ => n - (intOf i).toNat)
 case atStart =>
   refine ⟨0, Nat.zero_le _, rfl, ?_, (Below.refl _ _).alloc (Nat.le_refl _) _⟩
   refine ⟨_, alloc_new w _, by simp [madeCells], fun i hi => ?_⟩
   have h2 : i % 2 = 0 ∨ i % 2 = 1 := by omega
   rcases h2 with h2 | h2 <;> simp [madeCells, hi, h2, paired]
 case round =>
   obtain ⟨k, hk, rfl, hrow, hbel⟩ := hrel
   by_cases hlt : k < n
   · obtain ⟨b1, o1, rfl, hlb1, hc1⟩ := Ha3.out (by omega)
     have c1 := (hbel.cell (p := ⟨b1, o1 + k, none⟩) hlb1).trans (hc1 k hlt)
     obtain ⟨b2, o2, c2, e2, hb2, d1, d2, d3, d4⟩ := HG.out k hlt
     rw [e2] at c1
     replace d1 := (hbel.cell (p := ⟨b2, o2 + l * 2, none⟩) hb2).trans d1
     replace d2 := (hbel.cell (p := ⟨b2, o2 + l * 2 + 1, none⟩) hb2).trans d2
     obtain ⟨a3, c3, e3, _⟩ := d3.at
     obtain ⟨a4, c4, e4, _⟩ := d4.at
     have HE3 := hide e3
     have HE4 := hide e4
     rw [e3] at d1
     rw [e4] at d2
     have r1 := hrow.cell (show k * 2 < n * 2 by omega)
     have r2 := hrow.cell (show k * 2 + 1 < n * 2 by omega)
     have r3 := hrow.frozen (k * 2)
     have r4 := hrow.frozen (k * 2 + 1)
     clear hc1 e2 d3 d4 e3 e4
     go_wp2
     go_roundw
     case rel =>
       refine ⟨k + 1, by omega, by go_num, ((hrow.set (k * 2) _).set (k * 2 + 1) _).congr (fun i _ => ?_), (hbel.setCell (Nat.le_refl _) _).setCell (Nat.le_refl _) _⟩
       by_cases h1 : i = k * 2 + 1
       · subst h1
         rw [if_pos rfl, ← HE4.out]
         unfold paired
         rw [if_pos (by omega), if_neg (by omega), show (k * 2 + 1) / 2 = k by omega]
       · rw [if_neg h1]
         by_cases h2 : i = k * 2
         · subst h2
           rw [if_pos rfl, ← HE3.out]
           unfold paired
           rw [if_pos (by omega), if_pos (by omega), show k * 2 / 2 = k by omega]
         · rw [if_neg h2]
           unfold paired
           by_cases h3 : i < k * 2
           · rw [if_pos h3, if_pos (show i < (k + 1) * 2 by omega)]
           · rw [if_neg h3, if_neg (by omega)]
     case measure => simp [intOf]; omega
   · have hkr : n = k := by omega
     subst hkr
     go_wp2
     go_ret
     refine ⟨paired G n, rfl, owns_of_row hrow (Nat.le_refl _) (by unfold maxLen; omega), fun t ht => ?_, fun t ht => ?_, hbel⟩
     · obtain ⟨_, _, _, _, _, _, _, d3, _⟩ := HG.out t ht
       unfold paired
       rw [if_pos (by omega), if_pos (by omega), show t * 2 / 2 = t by omega]; exact d3
     · obtain ⟨_, _, _, _, _, _, _, _, d4⟩ := HG.out t ht
       unfold paired
       rw [if_pos (by omega), if_neg (by omega), show (t * 2 + 1) / 2 = t by omega]; exact d4
end Go.Proofs.Ytlmflighkkgikaa
