import Derived.Test.YtlmflighkkgikaaGreatP01
import Derived.Test.YtlmflighkkgikaaGreatP04

namespace Go.Proofs.YtlmflighkkgikaaGreat
open Go.RowKit
attribute [local go_sem ↓] Go.wp_at_zero Go.wp_at_succ
def Mat (w : World) (v : Value) (n m : Nat) (f : Nat → Nat → Int) : Prop := ∃ vs, Row w v n vs ∧ ∀ t, t < n → Ints w (vs t) m (f t)
theorem Mat.below {w w' : World} {v : Value} {n m : Nat} {f : Nat → Nat → Int} (h : Mat w v n m f) (hb : Below w.heap.size w w') : Mat w' v n m f := by
 obtain ⟨vs, h1, h2⟩ := h
 exact ⟨vs, h1.below hb, fun t ht => (h2 t ht).below hb⟩
set_option maxRecDepth 100000 in
set_option maxHeartbeats 2000000 in
theorem refhead_any (d s L l h p m pairs lo : Nat) (vK vV vq : Value) (ks vs : Nat → Value) (q : Nat → Int) (kf vf : Nat → Nat → Int) (w : World)
   (_hd : d < w.heap.size) (hs : s < w.heap.size) (hcP : w.cell? ⟨d, 4, none⟩ = some (.int .i64 pairs)) (hcK : w.cell? ⟨s, 0, none⟩ = some vK) (hcV : w.cell? ⟨s, 1, none⟩ = some vV)
   (hK : Row w vK L ks) (hV : Row w vV L vs) (hl : l < L) (hKl : Mat w (ks l) (p + 1) m kf) (hVl : Mat w (vs l) (p + 1) m vf) (hq : Ints w vq m q)
   (hp1 : 1 ≤ pairs) (hp2 : pairs ≤ 2) (_hh : h ≤ 1) (hlo : lo = h * (2 * pairs)) (hfit : lo + 2 * pairs ≤ m) (hm : m ≤ 100) (hL : L ≤ 10) (hp : p ≤ 1000)
   (bq : ∀ j, -4095 ≤ q j ∧ q j ≤ 4095) (bk : ∀ t j, -4095 ≤ kf t j ∧ kf t j ≤ 4095) (bv : ∀ t j, -4095 ≤ vf t j ∧ vf t j ≤ 4095) :
   Calls Tryz.prog 99 #[.pointer (some ⟨d, 0, none⟩), .pointer (some ⟨s, 0, none⟩), vq, .int .i64 l, .int .i64 h, .int .i64 p] w fun e w' =>
     ∃ r, e = .returned r ∧ w'.ownsRow w.heap.size 3 1 r (2 * pairs) ((List.range (2 * pairs)).map fun i => .int .i64 (headAt p (fun t => scoreOf lo (2 * pairs) q (kf t)) (fun t => vf t (lo + i)))) ∧ Below w.heap.size w w' := by
 obtain ⟨i0, hi, hz0, hz1, hz2⟩ := info_parts Tryz.info_int
 obtain ⟨aK, cK, rfl, hK1, hK2, hK3⟩ := hK
 obtain ⟨bK, oK, rfl, hbK, hcKs⟩ := hK3 (by omega)
 obtain ⟨aV, cV, rfl, hV1, hV2, hV3⟩ := hV
 obtain ⟨bV, oV, rfl, hbV, hcVs⟩ := hV3 (by omega)
 obtain ⟨kt, hKt, hKi⟩ := hKl
 obtain ⟨vt, hVt, hVi⟩ := hVl
 obtain ⟨aKt, cKt, eKt, hKt1, hKt2, hKt3⟩ := hKt
 obtain ⟨bKt, oKt, rfl, hbKt, hcKt⟩ := hKt3 (by omega)
 obtain ⟨aVt, cVt, eVt, hVt1, hVt2, hVt3⟩ := hVt
 obtain ⟨bVt, oVt, rfl, hbVt, hcVt⟩ := hVt3 (by omega)
 obtain ⟨aq, cq, rfl, hq1, hq2, hq3⟩ := hq
 obtain ⟨bq', oq, rfl, hbq, hcq⟩ := hq3 (by omega)
 have cK := hcKs l hl
 rw [eKt] at cK
 have cV := hcVs l hl
 rw [eVt] at cV
 have hloI : (h : Int) * (2 * (pairs : Int)) = lo := by subst hlo; simp
 have Hlo := hide hlo
 clear hlo
 clear hK3 hV3 hKt3 hVt3 hq3 hcKs hcVs eKt eVt
 have HcKt := hide hcKt
 have HcVt := hide hcVt
 have Hcq := hide hcq
 have HKi := hide hKi
 have HVi := hide hVi
 clear hcKt hcVt hcq hKi hVi
 go_enter Tryz.func99, Tryz.ntmps99
 go_wp2
 go_loopw [14, 15, 16] (fun sc top i wr => ∃ t : Nat, t ≤ p + 1 ∧ i = .int .i64 t ∧ wr.ownsRow w.heap.size 3 1 sc t ((List.range t).map fun t => .int .i64 (scoreOf lo (2 * pairs) q (kf t))) ∧
     top = .int .i64 (topTo (fun t => scoreOf lo (2 * pairs) q (kf t)) t) ∧ Below w.heap.size w wr) (fun _ _ i _ => p + 1 - (intOf i).toNat)
 case atStart => exact ⟨0, by omega, rfl, World.ownsRow_nil _ _ _ _, rfl, Below.refl _ _⟩
 case round =>
   obtain ⟨t, ht, rfl, hown, rfl, hbel⟩ := hrel
   have hsz := hbel.size
   by_cases hlt : t ≤ p
   · have k1 := (hbel.cell (p := ⟨s, 0, none⟩) hs).trans hcK
     have k2 := (hbel.cell (p := ⟨bK, oK + l, none⟩) hbK).trans cK
     have k3 := (hbel.cell (p := ⟨bKt, oKt + t, none⟩) hbKt).trans (HcKt.out t (by omega))
     obtain ⟨ax, cx, ex, hx1, hx2, hx3⟩ := HKi.out t (by omega)
     obtain ⟨bx, ox, rfl, hbx, hcx⟩ := hx3 (by omega)
     rw [ex] at k3
     have Hcx := hide hcx
     clear hcx ex hx3
     go_wp2
     go_loopw [17, 18] (fun sm i wi => ∃ j : Nat, j ≤ 2 * pairs ∧ i = .int .i64 ((lo : Int) + (j : Int)) ∧ sm = .int .i64 (sumTo (fun i => q (lo + i) * kf t (lo + i)) j) ∧ ∃ n, wi = wr.drewN n) (fun _ i _ => lo + 2 * pairs - (intOf i).toNat)
     case atStart => exact ⟨0, by omega, rfl, rfl, 0, rfl⟩
     case round =>
       obtain ⟨j, hj, rfl, rfl, nd, rfl⟩ := hrel
       obtain ⟨hs1, hs2⟩ := sumTo_bd (f := fun i => q (lo + i) * kf t (lo + i)) (n := j) (b := 4095 * 4095) (fun i _ => mul_bd (bq _) (bk _ _))
       obtain ⟨hp1', hp2'⟩ := mul_bd (bq (lo + j)) (bk t (lo + j))
       by_cases hjl : j < 2 * pairs
       · have c1 := (hbel.cell (p := ⟨bq', oq + (lo + j), none⟩) hbq).trans (Hcq.out (lo + j) (by omega))
         have c2 := (hbel.cell (p := ⟨bx, ox + (lo + j), none⟩) hbx).trans (Hcx.out (lo + j) (by omega))
         go_wp2
         go_quiet (fail)
         go_wp2
         go_roundw
         case rel => exact ⟨j + 1, by omega, by go_num, rfl, _, rfl⟩
         case measure => simp [intOf]; omega
       · have hjm : j = 2 * pairs := by omega
         subst hjm
         go_wp2_with (at_builtin; refine wpList_append_own _ rfl _ _ 36 rfl w.heap.size 3 i0 (.int .i64 0) 1 8 Tryz.underlying36 hi hz0 hz1 hz2 rfl (by decide) _ _ _ rfl ((owns_drewN hown nd).alloc _) ⟨wr.heap.size, 0, none⟩ 1 1 [.int .i64 (scoreOf lo (2 * pairs) q (kf t))] rfl rfl ?c1 ?c2 ?c3 ?c4 ?c5 ?_)
         case c1 => exact one_new (wr.drewN nd) _ _
         case c2 => exact one_int _
         case c3 => unfold maxLen; omega
         case c4 => omega
         case c5 => simp; omega
         intro v' w1 hown' hgrow _
         have hbel' : Below w.heap.size w w1 := ((below_drewN hbel nd).alloc (by simp; omega) _).grown hgrow (by simp; omega) (fun g hg => (hown.lt g hg).1)
         rw [← range_map_succ (fun t => Value.int .i64 (scoreOf lo (2 * pairs) q (kf t)))] at hown'
         clear hown hgrow k1 k2 k3 hp1' hp2' hbel
         by_cases ht0 : t = 0
         · subst ht0
           go_wp2
           go_roundw
           case rel => exact ⟨1, by omega, by go_num, hown', rfl, hbel'⟩
           case measure => simp [intOf]
         · have hb0 : ((t : Int) == 0) = false := beq_eq_false_iff_ne.2 (by omega)
           by_cases htop : topTo (fun t => scoreOf lo (2 * pairs) q (kf t)) t < scoreOf lo (2 * pairs) q (kf t)
           · have Ht := hide (topTo_hit (fun t => scoreOf lo (2 * pairs) q (kf t)) t (by omega) htop)
             have htop' : topTo (fun t => scoreOf lo (2 * pairs) q (kf t)) t < (sumTo (fun i => q (lo + i) * kf t (lo + i)) (2 * pairs)).tdiv 256 := htop
             clear htop
             go_wp2
             go_roundw
             case rel => exact ⟨t + 1, by omega, by go_num, hown', by rw [Ht.out]; rfl, hbel'⟩
             case measure => simp [intOf]; omega
           · have Ht := hide (topTo_miss (fun t => scoreOf lo (2 * pairs) q (kf t)) t (by omega) (by omega))
             have htop' : (sumTo (fun i => q (lo + i) * kf t (lo + i)) (2 * pairs)).tdiv 256 ≤ topTo (fun t => scoreOf lo (2 * pairs) q (kf t)) t := by
               have : scoreOf lo (2 * pairs) q (kf t) ≤ topTo (fun t => scoreOf lo (2 * pairs) q (kf t)) t := by omega
               exact this
             clear htop
             go_wp2
             go_roundw
             case rel => exact ⟨t + 1, by omega, by go_num, hown', by rw [Ht.out], hbel'⟩
             case measure => simp [intOf]; omega
   · have htp : t = p + 1 := by omega
     subst htp
     clear hcK hcP cK
     obtain ⟨W1, rfl⟩ : ∃ W1, W1 = wr := ⟨_, rfl⟩
     have hsc : Ints W1 u14 (p + 1) (fun t => scoreOf lo (2 * pairs) q (kf t)) := Row.of_owns hown
     obtain ⟨asc, csc, rfl, hsc1, hsc2, hsc3⟩ := hsc
     obtain ⟨bsc, osc, rfl, hbsc, hcsc⟩ := hsc3 (by omega)
     have Hcsc := hide hcsc
     clear hcsc hsc3 hown
     have HT := hide (show topTo (fun t => scoreOf lo (2 * pairs) q (kf t)) (p + 1) = maxTo (fun t => scoreOf lo (2 * pairs) q (kf t)) p from rfl)
     have Hmax : ∀ t, t ≤ p → 0 ≤ topTo (fun t => scoreOf lo (2 * pairs) q (kf t)) (p + 1) - scoreOf lo (2 * pairs) q (kf t) := fun t ht => by
       have := maxTo_ge (fun t => scoreOf lo (2 * pairs) q (kf t)) p t ht
       rw [HT.out]; omega
     have Hmax' := hide Hmax
     clear Hmax
     have htb1 : -67076100 ≤ topTo (fun t => scoreOf lo (2 * pairs) q (kf t)) (p + 1) ∧ topTo (fun t => scoreOf lo (2 * pairs) q (kf t)) (p + 1) ≤ 67076100 := by
       rw [HT.out]
       obtain ⟨j, hj, e⟩ := maxTo_is (fun t => scoreOf lo (2 * pairs) q (kf t)) p
       rw [e]; exact scoreOf_bd lo (2 * pairs) q (kf j) (by omega) bq (bk j)
     generalize topTo (fun t => scoreOf lo (2 * pairs) q (kf t)) (p + 1) = top at HT Hmax' htb1 ⊢
     obtain ⟨htb1, htb2⟩ := htb1
     go_wp2
     go_loopw [19, 20] (fun o i w3 => ∃ j : Nat, j ≤ 2 * pairs ∧ i = .int .i64 ((lo : Int) + (j : Int)) ∧ w3.ownsRow W1.heap.size 3 1 o j ((List.range j).map fun i => .int .i64 (headAt p (fun t => scoreOf lo (2 * pairs) q (kf t)) (fun t => vf t (lo + i)))) ∧ Below W1.heap.size W1 w3) (fun _ i _ => lo + 2 * pairs - (intOf i).toNat)
     case atStart => exact ⟨0, by omega, rfl, World.ownsRow_nil _ _ _ _, Below.refl _ _⟩
     case round =>
       obtain ⟨j, hj, rfl, hown, hbel3⟩ := hrel
       have hsz3 := hbel3.size
       by_cases hjl : j < 2 * pairs
       · have hdj : decide ((j : Int) < 2 * (pairs : Int)) = true := by simp; omega
         have v1 := (hbel3.cell (p := ⟨s, 1, none⟩) (by show s < _; omega)).trans ((hbel.cell (p := ⟨s, 1, none⟩) hs).trans hcV)
         have v2 := (hbel3.cell (p := ⟨bV, oV + l, none⟩) (by show bV < _; omega)).trans ((hbel.cell (p := ⟨bV, oV + l, none⟩) hbV).trans cV)
         go_wp2
         go_loopw [21, 22, 23] (fun sm al i wi => (∃ q, wi = wr.drewN q) ∧ ∃ t : Nat, t ≤ p + 1 ∧ i = .int .i64 t ∧ sm = .int .i64 (sumTo (fun t => shareAt p (fun t => scoreOf lo (2 * pairs) q (kf t)) t * vf t (lo + j)) t) ∧ al = .int .i64 (sumTo (shareAt p (fun t => scoreOf lo (2 * pairs) q (kf t))) t)) (fun _ _ i _ => p + 1 - (intOf i).toNat)
         case atStart => exact ⟨⟨0, rfl⟩, 0, by omega, rfl, rfl, rfl⟩
         case round =>
           obtain ⟨hwi, t, ht, rfl, rfl, rfl⟩ := hrel
           obtain ⟨nd, rfl⟩ := hwi
           obtain ⟨hS1, hS2⟩ := heads_bd p t (fun t => scoreOf lo (2 * pairs) q (kf t)) (fun t => vf t (lo + j)) (fun t => bv t _)
           obtain ⟨hA1, hA2⟩ := shares_bd p t (fun t => scoreOf lo (2 * pairs) q (kf t))
           by_cases htl : t ≤ p
           · have v3 := (hbel3.cell (p := ⟨bVt, oVt + t, none⟩) (by show bVt < _; omega)).trans ((hbel.cell (p := ⟨bVt, oVt + t, none⟩) hbVt).trans (HcVt.out t (by omega)))
             obtain ⟨ax, cx, ex, hx1, hx2, hx3⟩ := HVi.out t (by omega)
             obtain ⟨bx, ox, rfl, hbx, hcx⟩ := hx3 (by omega)
             rw [ex] at v3
             have v4 := (hbel3.cell (p := ⟨bx, ox + (lo + j), none⟩) (by show bx < _; omega)).trans ((hbel.cell (p := ⟨bx, ox + (lo + j), none⟩) hbx).trans (hcx (lo + j) (by omega)))
             have s1 := (hbel3.cell (p := ⟨bsc, osc + t, none⟩) hbsc).trans (Hcsc.out t (by omega))
             have hsb := scoreOf_bd lo (2 * pairs) q (kf t) (by omega) bq (bk t)
             obtain ⟨hsb1, hsb2⟩ := hsb
             have hD := Hmax'.out t htl
             have HX := hide (show shareAt p (fun t => scoreOf lo (2 * pairs) q (kf t)) t = shareOf (top - scoreOf lo (2 * pairs) q (kf t)) from by unfold shareAt; rw [HT.out])
             generalize scoreOf lo (2 * pairs) q (kf t) = sct at s1 hsb1 hsb2 hD HX
             clear hcx hx3 ex
             go_wp2
             go_loopw [24, 25] (fun sh k wi => (∃ q, wi = wr.drewN q) ∧ ∃ n : Nat, n ≤ 17 ∧ (n : Int) ≤ top - sct ∧ k = .int .i64 n ∧ sh = .int .i64 (halved n)) (fun _ k _ => 17 - (intOf k).toNat)
             case atStart => exact ⟨⟨nd, rfl⟩, 0, by omega, by omega, rfl, rfl⟩
             case round =>
               obtain ⟨hwi, n, hn1, hn2, rfl, rfl⟩ := hrel
               obtain ⟨nd2, rfl⟩ := hwi
               obtain ⟨hh1, hh2⟩ := halved_bd n
               obtain ⟨hm1, hm2⟩ := mul_bd (a := halved n) (b := vf t (lo + j)) (x := 65536) (y := 4095) ⟨by omega, hh2⟩ (bv t _)
               by_cases hg1 : (n : Int) < top - sct
               · by_cases hg2 : n < 17
                 · have Hh := hide (halved_succ n)
                   go_wp2
                   go_roundw
                   case rel => exact ⟨⟨_, rfl⟩, n + 1, by omega, by omega, by go_num, by rw [Hh.out]⟩
                   case measure => simp [intOf]; omega
                 · have Hsh := hide (show shareOf (top - sct) = halved n from by unfold shareOf; rw [show min (top - sct).toNat 17 = n by omega])
                   go_wp2
                   go_roundw
                   case rel => exact ⟨⟨_, rfl⟩, t + 1, by omega, by go_num, by simp only [sumTo]; rw [HX.out, Hsh.out], by simp only [sumTo]; rw [HX.out, Hsh.out]⟩
                   case measure => simp [intOf]; omega
               · have Hsh := hide (show shareOf (top - sct) = halved n from by unfold shareOf; rw [show min (top - sct).toNat 17 = n by omega])
                 have hd1 : decide ((n : Int) < top - sct) = false := by simpa using hg1
                 go_wp2
                 go_roundw
                 case rel => exact ⟨⟨_, rfl⟩, t + 1, by omega, by go_num, by simp only [sumTo]; rw [HX.out, Hsh.out], by simp only [sumTo]; rw [HX.out, Hsh.out]⟩
                 case measure => simp [intOf]; omega
           · have htp : t = p + 1 := by omega
             subst htp
             have hpos := shares_pos p (fun t => scoreOf lo (2 * pairs) q (kf t))
             go_wp2_with (at_builtin; refine wpList_append_own _ rfl _ _ 36 rfl W1.heap.size 3 i0 (.int .i64 0) 1 8 Tryz.underlying36 hi hz0 hz1 hz2 rfl (by decide) _ _ _ rfl ((owns_drewN hown nd).alloc _) ⟨wr.heap.size, 0, none⟩ 1 1 [.int .i64 (headAt p (fun t => scoreOf lo (2 * pairs) q (kf t)) (fun t => vf t (lo + j)))] rfl rfl ?c1 ?c2 ?c3 ?c4 ?c5 ?_)
             case c1 => exact one_new (wr.drewN nd) _ _
             case c2 => exact one_int _
             case c3 => unfold maxLen; omega
             case c4 => omega
             case c5 => simp; omega
             intro v' w1 hown' hgrow _
             have hbel' : Below W1.heap.size W1 w1 := ((below_drewN hbel3 nd).alloc hsz3 _).grown hgrow (by simp; omega) (fun g hg => (hown.lt g hg).1)
             rw [← range_map_succ (fun i => Value.int .i64 (headAt p (fun t => scoreOf lo (2 * pairs) q (kf t)) (fun t => vf t (lo + i))))] at hown'
             clear hown hgrow v1 v2 hbel3
             go_wp2
             go_roundw
             case rel => exact ⟨j + 1, by omega, by go_num, hown', hbel'⟩
             case measure => simp [intOf]; omega
       · have hjm : j = 2 * pairs := by omega
         subst hjm
         go_wp2
         go_ret
         exact ⟨_, rfl, owns_base hown hsz, hbel.trans (hbel3.mono hsz)⟩
end Go.Proofs.YtlmflighkkgikaaGreat
