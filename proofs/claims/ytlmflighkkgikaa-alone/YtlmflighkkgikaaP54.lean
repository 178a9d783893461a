import Derived.Deep.CutRange
import Derived.Maps.AppendAt
import Derived.Test.YtlmflighkkgikaaP24
import Derived.Test.YtlmflighkkgikaaP50
import Derived.Test.YtlmflighkkgikaaP53

namespace Go.Proofs.Ytlmflighkkgikaa
open Go.RowKit
attribute [local go_sem ↓] Go.wp_at_zero Go.wp_at_succ
theorem Try.info_row : (Try.prog.info? 24).map (fun i => (i.zero, i.size, i.bytes)) = some (some (.slice none 0 0), 1, 24) := by kernel_rfl
structure RowsK (base : Nat) (w : World) (c : Cfg) (L : List (Int × Key)) (n : Nat) (u v : Value) (f g : Nat → Value) : Prop where
 one : w.ownsRow base 24 1 u n ((List.range n).map f)
 two' : w.ownsRow base 24 1 v n ((List.range n).map g)
 ap : ∀ k, u.ownBlock = some k → v.ownBlock ≠ some k
 ts : ∀ j, j < n → IntsT w (f j) (lenO (tkM L j)) (tkO (tkM L j))
 ws : ∀ j, j < n → IntsT w (g j) (seenL c (tkM L j)).length (fun i => (seenL c (tkM L j)).getD i 0)
theorem RowsK.keep {base : Nat} {w w' : World} {c : Cfg} {L : List (Int × Key)} {n : Nat} {u v : Value} {f g : Nat → Value} (h : RowsK base w c L n u v f g) (h1 : KeepT 3 w w') (h2 : KeepT 24 w w') : RowsK base w' c L n u v f g :=
 ⟨owns_keepT h.one h2, owns_keepT h.two' h2, h.ap, fun j hj => (h.ts j hj).keep h1, fun j hj => (h.ws j hj).keep h1⟩
theorem RowsK.nil (base : Nat) (w : World) (c : Cfg) (L : List (Int × Key)) (f g : Nat → Value) : RowsK base w c L 0 (.slice none 0 0) (.slice none 0 0) f g :=
 ⟨World.ownsRow_nil _ _ _ _, World.ownsRow_nil _ _ _ _, fun k hk => by simp [Value.ownBlock] at hk, fun j hj => absurd hj (by omega), fun j hj => absurd hj (by omega)⟩
theorem stat_cells {w : World} {b : Nat} {a0 a1 a2 : Value} {t : TypeId} {fr : Nat × Nat} (h : w.heap[b]? = some (.cells #[a0, a1, a2] t fr)) :
   w.cell? ⟨b, 0, none⟩ = some a0 ∧ w.cell? ⟨b, 1, none⟩ = some a1 ∧ w.cell? ⟨b, 2, none⟩ = some a2 := by
 refine ⟨?_, ?_, ?_⟩ <;> (rw [cell_blk h]; rfl)
theorem ksame2 {w : World} {va vb : Value} {n m : Nat} {f g : Nat → Int} (ha : IntsT w va n f) (hb : IntsT w vb m g) :
   Calls Try.prog 25 #[va, vb] w fun e w' => ∃ b : Bool, e = .returned (.bool b) ∧ (n = m → f = g → b = true) ∧ Below w.heap.size w w' := by
 refine (hksame_any n m va vb f g w ha.ints hb.ints).mono ?_
 rintro e w' ⟨rfl, q, rfl⟩
 exact ⟨_, rfl, fun e1 e2 => by subst e1 e2; exact sameI_refl _ _, below_drewN (Below.refl _ _) q⟩
theorem RowsK.cell {base : Nat} {w : World} {c : Cfg} {L : List (Int × Key)} {n g14 c14 g15 c15 : Nat} {f g : Nat → Value} (h : RowsK base w c L n (.slice (some ⟨g14, 0, none⟩) n c14) (.slice (some ⟨g15, 0, none⟩) n c15) f g) {j : Nat} (hj : j < n) :
   w.cell? ⟨g14, j, none⟩ = some (f j) ∧ w.cell? ⟨g15, j, none⟩ = some (g j) := by
 have e : ∀ F : Nat → Value, ((List.range n).map F)[j]? = some (F j) := fun F => by rw [List.getElem?_map, List.getElem?_range hj]; rfl
 have q1 := h.one.cells (g := g14) rfl j (f j) (e f)
 have q2 := h.two'.cells (g := g15) rfl j (g j) (e g)
 rw [addr_add, Nat.zero_add] at q1 q2
 exact ⟨q1, q2⟩
theorem range_put (n : Nat) (f : Nat → Value) (r : Value) : (List.range n).map f ++ [r] = (List.range (n + 1)).map (fun j => if j = n then r else f j) := by
 rw [List.range_succ, List.map_append]
 congr 1
 · exact List.map_congr_left (fun j hj => by rw [if_neg (by have := List.mem_range.1 hj; omega)])
 · simp
theorem RowsK.second {base : Nat} {w w8 : World} {c : Cfg} {L : List (Int × Key)} {n : Nat} {u v : Value} {f g : Nat → Value} (h : RowsK base w c L n u v f g) {o : Obj} (hg8 : (w.alloc o).grownBy w8 u.ownBlock) : w8.ownsRow base 24 1 v n ((List.range n).map g) :=
 (h.two'.alloc o).kept hg8 (by
   cases hv : v.ownBlock with
   | none => exact .inl rfl
   | some k => exact .inr (fun e => h.ap k e.symm hv))
theorem RowsK.more {base : Nat} {w w8 w9 : World} {c : Cfg} {L : List (Int × Key)} {n : Nat} {u v : Value} {f g : Nat → Value} (h : RowsK base w c L n u v f g) {r1 r2 v8 v9 : Value} {o o' : Obj}
   (i1 : IntsT w r1 (lenO (tkM L n)) (tkO (tkM L n))) (i2 : IntsT w r2 (seenL c (tkM L n)).length (fun i => (seenL c (tkM L n)).getD i 0))
   (ho8 : w8.ownsRow base 24 1 v8 (n + 1) ((List.range n).map f ++ [r1])) (hg8 : (w.alloc o).grownBy w8 u.ownBlock) (hat8 : v8.ownBlock = u.ownBlock ∨ v8.ownBlock = some (w.alloc o).heap.size)
   (ho9 : w9.ownsRow base 24 1 v9 (n + 1) ((List.range n).map g ++ [r2])) (hg9 : (w8.alloc o').grownBy w9 v.ownBlock) (hat9 : v9.ownBlock = v.ownBlock ∨ v9.ownBlock = some (w8.alloc o').heap.size) :
   RowsK base w9 c L (n + 1) v8 v9 (fun j => if j = n then r1 else f j) (fun j => if j = n then r2 else g j) := by
 have hsec := h.second hg8
 have k8 : KeepT 3 w w8 := (KeepT.of_below ((Below.refl _ _).alloc (Nat.le_refl _) o)).trans (KeepT.of_grown (h.one.alloc o) hg8 (by decide))
 have k9 : KeepT 3 w w9 := k8.trans ((KeepT.of_below ((Below.refl _ _).alloc (Nat.le_refl _) o')).trans (KeepT.of_grown (hsec.alloc o') hg9 (by decide)))
 have hne : ∀ k, v8.ownBlock = some k → v.ownBlock ≠ some k := fun k hk hv => by
   rcases hat8 with q | q
   · exact h.ap k (q.symm.trans hk) hv
   · have h1 := (h.two'.lt k hv).2
     rw [q] at hk
     injection hk with hk
     simp at hk
     omega
 refine ⟨?_, ?_, ?_, ?_, ?_⟩
 · rw [range_put] at ho8
   refine (ho8.alloc o').kept hg9 ?_
   cases hv : v8.ownBlock with
   | none => exact .inl rfl
   | some k => exact .inr (fun e => hne k hv e.symm)
 · rw [range_put] at ho9
   exact ho9
 · intro k hk hv
   rcases hat9 with q | q
   · exact hne k hk (q.symm.trans hv)
   · have h1 := (ho8.lt k hk).2
     rw [q] at hv
     injection hv with hv
     simp at hv
     omega
 · intro j hj
   by_cases e : j = n
   · subst e; simp only [if_pos]; exact i1.keep k9
   · simp only [if_neg e]; exact (h.ts j (by omega)).keep k9
 · intro j hj
   by_cases e : j = n
   · subst e; simp only [if_pos]; exact i2.keep k9
   · simp only [if_neg e]; exact (h.ws j (by omega)).keep k9
set_option maxRecDepth 100000 in
set_option maxHeartbeats 8000000 in
theorem alone_any (s : ShapeD) (hs : s.ok) (bl sl : Int) (h1 : kI bl) (h2 : kI sl) (aa : Option Addr) (na ca : Nat) (act : Nat → ActD) (w : World) (hA : ActsI w aa na ca act) :
   Calls Try.prog 6 #[.agg #[.int .i64 s.l, .int .i64 s.h, .int .i64 s.p, .int .i64 s.v, .int .i64 s.s], .int .i64 bl, .int .i64 sl, .slice aa na ca] w fun e w' => e = .returned (.bool true) ∧ Below w.heap.size w w' := by
 obtain ⟨i0, hi, hz0, hz1, hz2⟩ := info_parts Try.info_row
 have p1 := kpick_lt (c := bl) (n := 32) (by decide)
 have p2 := kpick_lt (c := sl) (n := 4) (by decide)
 obtain ⟨n1, en1⟩ : ∃ n1 : Nat, 1 + pickI bl 32 = n1 := ⟨(1 + pickI bl 32).toNat, by omega⟩
 obtain ⟨n2, en2⟩ : ∃ n2 : Nat, 1 + pickI sl 4 = n2 := ⟨(1 + pickI sl 4).toNat, by omega⟩
 have w1 : IntKind.i64.wrap (n1 : Int) = n1 := wrap_in (by omega) (by omega)
 have w2 : IntKind.i64.wrap (n2 : Int) = n2 := wrap_in (by omega) (by omega)
 have hcf := fun W => hkconfig_any s hs n1 n2 (by omega) (by omega) W
 have hpk1 := fun W => hkpick_any bl 32 W h1 (by decide) (by decide)
 have hpk2 := fun W => hkpick_any sl 4 W h2 (by decide) (by decide)
 have hpk : ∀ (x : Int) (n : Int) (W : World), (x = bl ∧ n = 32) ∨ (x = sl ∧ n = 4) → Calls Try.prog 10 #[.int .i64 x, .int .i64 n] W fun e w' => e = .returned (.int .i64 (pickI x n)) ∧ w' = W := fun x n W hx => by
   rcases hx with ⟨rfl, rfl⟩ | ⟨rfl, rfl⟩
   · exact hpk1 W
   · exact hpk2 W
 obtain ⟨W0, hW0⟩ : ∃ W0, W0 = w.alloc (.cells #[.int .i64 s.l, .int .i64 s.h, .int .i64 s.p, .int .i64 s.v, .int .i64 s.s] 23) := ⟨_, rfl⟩
 have hb0 : Below w.heap.size w W0 := by rw [hW0]; exact (Below.refl _ _).alloc (Nat.le_refl _) _
 have hn0 : W0.heap[w.heap.size]? = some (.cells #[.int .i64 s.l, .int .i64 s.h, .int .i64 s.p, .int .i64 s.v, .int .i64 s.s] 23 (0, 0)) := by rw [hW0]; exact alloc_new _ _
 have hs0 : W0.heap.size = w.heap.size + 1 := by rw [hW0]; simp
 obtain ⟨x0, x1, x2, x3, x4⟩ := shape_cells hn0
 have Hcf := hide hcf
 have Hpk := hide hpk
 have Hw1 := hide w1
 have Hw2 := hide w2
 have HW0 := hide hW0
 have Hn0 := hide hn0
 have Hb0 := hide hb0
 have Hs0 := hide hs0
 have hne0 : w.heap.size ≠ W0.heap.size := by omega
 have Hne := hide hne0
 clear hcf hpk hpk1 hpk2 w1 w2 hW0 hn0 hb0 hs0 hne0
 obtain ⟨c, ec⟩ : ∃ c, c = kcfg s n1 n2 := ⟨_, rfl⟩
 rw [← ec] at Hcf
 have Hec := hide ec
 clear ec
 have HA := hide hA
 have hcap := hA.cap
 have hcle := hA.le
 unfold maxLen at hcap
 clear hA
 go_enter Try.func6, Try.ntmps6
 go_wp2
 rw [← HW0.out]
 go_cut [9] from 30 (fun v W => ∃ bc, v = .pointer (some ⟨bc, 0, none⟩) ∧ W0.heap.size ≤ bc ∧ W.heap[bc]? = some (.cells #[.int .i64 c.blocks, .int .i64 c.slots, .int .i64 c.layers, .int .i64 c.heads, .int .i64 c.pairs, .int .i64 c.vocab, .int .i64 c.seed] 26 (0, 0)) ∧ Below W0.heap.size W0 W)
 case first =>
   go_region_held3 (fun w' => w'.cell? ⟨w.heap.size, 0, none⟩ = some (.int .i64 s.l) ∧ w'.cell? ⟨w.heap.size, 1, none⟩ = some (.int .i64 s.h) ∧ w'.cell? ⟨w.heap.size, 2, none⟩ = some (.int .i64 s.p) ∧ w'.cell? ⟨w.heap.size, 3, none⟩ = some (.int .i64 s.v) ∧ w'.cell? ⟨w.heap.size, 4, none⟩ = some (.int .i64 s.s)) (first | go_keep | (exact ⟨(far7 Hne.out 0 _ _ _ _ _ _ _).trans z0, (far7 Hne.out 1 _ _ _ _ _ _ _).trans z1, (far7 Hne.out 2 _ _ _ _ _ _ _).trans z2, (far7 Hne.out 3 _ _ _ _ _ _ _).trans z3, (far7 Hne.out 4 _ _ _ _ _ _ _).trans z4⟩)) (first
     | (go_at_call 10; refine Calls_use (Hpk.out _ _ _ (by first | exact .inl ⟨rfl, rfl⟩ | exact .inr ⟨rfl, rfl⟩)) ?_)
     | (go_at_call 9; rw [Hw1.out, Hw2.out]; refine (Hcf.out _).mono ?_; rintro e w1 ⟨rfl, hb1⟩; (first | (have hx1 := (hb1.block w.heap.size (lt_blk Hn0.out)).trans Hn0.out; have hB1 : Below W0.heap.size W0 w1 := below_of_drewN (k := 1) hb1) | (have hx1 := (hb1.block w.heap.size (Nat.lt_of_lt_of_le (lt_blk Hn0.out) (by simp))).trans ((((Below.refl _ _).alloc (Nat.le_refl _) _).block _ (lt_blk Hn0.out)).trans Hn0.out); have hy := (hb1.block W0.heap.size (by simp)).trans (alloc_new W0 _); obtain ⟨y0, y1, y2, y3, y4, y5, y6⟩ := cfg_cells hy; have f0 := frozen_blk hy 0; have f1 := frozen_blk hy 1; have f2 := frozen_blk hy 2; have f3 := frozen_blk hy 3; have f4 := frozen_blk hy 4; have f5 := frozen_blk hy 5; have f6 := frozen_blk hy 6; have Hy := hide hy; clear hy; have hB1 : Below W0.heap.size W0 w1 := (((Below.refl W0.heap.size W0).alloc (Nat.le_refl _) _).drew).trans (hb1.mono (by simp)))); obtain ⟨z0, z1, z2, z3, z4⟩ := shape_cells hx1; have HB1 := hide hB1; have Hx1 := hide hx1; clear hb1 hx1 hB1))
   all_goals go_wp2
   all_goals go_meet
   all_goals first
     | exact ⟨_, rfl, HB1.out.size, alloc_new w1 _, (HB1.out.alloc HB1.out.size _)⟩
     | exact ⟨_, rfl, Nat.le_refl _, set7_blk Hy.out _ _ _ _ _ _ _, set7_below HB1.out (Nat.le_refl _) _ _ _ _ _ _ _⟩
 case rest =>
   obtain ⟨bc, rfl, hbc, hcb, hBc⟩ := hcut
   obtain ⟨W2, hw2⟩ : ∃ W2, W2 = wc := ⟨_, rfl⟩
   subst hw2
   have hho := hkhoarded_any c (by rw [Hec.out]; exact kcfg_ok hs (by omega) (by omega)) W2
   unfold cfgV at hho
   obtain ⟨c0, c1, c2, c3, c4, c5, c6⟩ := cfg_cells hcb
   have Hho := hide hho
   have Hcb2 := hide hcb
   have HBc := hide hBc
   clear hho hcb hBc x0 x1 x2 x3 x4
   go_wp2_with (first
     | (go_at_call 11; refine Hho.out.mono ?_; clear Hho; rintro e w5 ⟨p, rfl, hp, epc, epL, epI, hb5⟩; have Hp := hide hp; have Hb5 := hide hb5; have Hepc := hide epc; have HepL := hide epL; clear hp hb5 epc epL epI c0 c1 c2 c3 c4 c5 c6))
   have HT0 : Hid (OneK W2.heap.size W2 w5 p.g.X c p) := ⟨Hp.out, (by rw [HepL.out]; intro x hx; cases hx), Hb5.out, rfl, Hepc.out, Nat.le_refl _⟩
   have hbw : Below w.heap.size w W2 := Hb0.out.trans (HBc.out.mono Hb0.out.size)
   have HA2 := hide (HA.out.below hbw)
   have Hbw := hide hbw
   clear hbw HA Hp Hb5 Hepc HepL
   go_loopw [11] (fun i wr => ∃ (kk : Nat) (p' : HD), kk ≤ na ∧ i = .int .i64 kk ∧ Hid (OneK W2.heap.size W2 wr p.g.X c p')) (fun i _ => na - (intOf i).toNat)
   case atStart => exact ⟨0, p, Nat.zero_le _, rfl, HT0.out⟩
   case round =>
     obtain ⟨kk, P1, hkk, rfl, HT⟩ := hrel
     by_cases hlt : kk < na
     · obtain ⟨b, off, ea, hbl, o0, o1, o2, o3⟩ := HA2.out.spots kk hlt
       have hok := HA2.out.ok kk hlt
       subst ea
       generalize act kk = a at o0 o1 o2 o3 hok
       have q0 := (HT.out.bel.cell (p := ⟨b, off + kk * 4, none⟩) hbl).trans o0
       have q1 := (HT.out.bel.cell (p := ⟨b, off + kk * 4 + 1, none⟩) hbl).trans o1
       have q2 := (HT.out.bel.cell (p := ⟨b, off + kk * 4 + 2, none⟩) hbl).trans o2
       have q3 := (HT.out.bel.cell (p := ⟨b, off + kk * 4 + 3, none⟩) hbl).trans o3
       clear o0 o1 o2 o3
       obtain ⟨aT, cT, eT, _⟩ := id hok.t
       have hval : a.val = .agg #[.int .i64 a.K, .int .i64 a.A, .int .i64 a.B, .slice aT a.n cT] := by unfold ActD.val; rw [eT]
       rw [eT] at q3
       have hpk := fun W => hkpick_any a.K 10 W hok.K (by decide) (by decide)
       have hia := fun W => hkid_any a.A W hok.A
       have hib := fun W => hkid_any a.B W hok.B
       obtain ⟨WB, hWB⟩ : ∃ WB, WB = wr.alloc (.cells #[.int .i64 a.K, .int .i64 a.A, .int .i64 a.B, .slice aT a.n cT] 48) := ⟨_, rfl⟩
       have hbB : Below wr.heap.size wr WB := by rw [hWB]; exact (Below.refl _ _).alloc (Nat.le_refl _) _
       have hbx : WB.heap[wr.heap.size]? = some (.cells #[.int .i64 a.K, .int .i64 a.A, .int .i64 a.B, .slice aT a.n cT] 48 (0, 0)) := by rw [hWB]; exact alloc_new _ _
       have HTB := hide (HT.out.below hbB)
       obtain ⟨x0, x1, x2, x3⟩ := act_cells hbx
       have Hok := hide hok
       have Hval := hide hval
       have Hpk := hide hpk
       have Hia := hide hia
       have Hib := hide hib
       have HWB := hide hWB
       have HbB := hide hbB
       have Hbx := hide hbx
       clear hok hval hpk hia hib hWB hbB hbx eT
       go_upto_region 10 with (go_at_call 22; rw [← HWB.out]; refine Calls_use (Hia.out _) ?_; clear Hia)
       iterate 9 (first | go_values | go_skip | go_guarded | go_step | go_upon | go_back)
       (go_at_call 10; refine Calls_use (Hpk.out _) ?_; clear Hpk)
       simp only []
       iterate 4 (first | go_values | go_skip | go_guarded | go_step | go_upon | go_back)
       go_cut [13] from 42 to 178 (fun v W => v = .int .i64 (mineOf a) ∧ W = WB)
       case first =>
         by_cases h7 : pickI a.K 10 = 7
         · go_wp2_with (go_at_call 22; refine Calls_use (Hib.out _) ?_; clear Hib)
           go_meet
           case rel => exact ⟨by unfold mineOf; rw [if_pos h7], rfl⟩
         · by_cases h9 : pickI a.K 10 = 9
           · go_wp2
             go_meet
             case rel => exact ⟨by unfold mineOf; rw [if_neg h7, if_pos h9], rfl⟩
           · go_wp2
             go_meet
             case rel => exact ⟨by unfold mineOf; rw [if_neg h7, if_neg h9], rfl⟩
       case rest =>
         obtain ⟨rfl, rfl⟩ := hcut
         obtain ⟨WB, hwb⟩ : ∃ WB, WB = wc := ⟨_, rfl⟩
         subst hwb
         clear Hib x0 x1 x2 x3 q0 q1 q2 q3 HWB
         go_wp2
         go_loopw [14, 15, 16] (fun u v i wr => ∃ (k1 : Nat) (f g : Nat → Value), k1 ≤ 5 ∧ i = .int .i64 k1 ∧ Hid (RowsK WB.heap.size wr c P1.L k1 u v f g) ∧ Hid (Below WB.heap.size WB wr)) (fun _ _ i _ => 5 - (intOf i).toNat)
         case atStart => exact ⟨0, fun _ => undef, fun _ => undef, Nat.zero_le _, rfl, RowsK.nil _ _ _ _ _ _, Below.refl _ _⟩
         case round =>
           obtain ⟨k1, f, g, hk1, rfl, HR, HB⟩ := hrel
           have HT1 := hide (HTB.out.below HB.out)
           obtain ⟨c0, c1, c2, c3, c4, c5, c6⟩ := cfg_cells ((HT1.out.bel.block bc (lt_blk Hcb2.out)).trans Hcb2.out)
           have hs1 := HB.out.size
           by_cases hl5 : k1 < 5
           · clear c0 c1 c3 c4 c5 c6
             have hse := one_seen HT1.out k1 (by omega)
             have Hse := hide hse
             clear hse
             go_wp2_with (first
               | (go_at_call 23; refine Hse.out.mono ?_; clear Hse; rintro e w7 ⟨r1, r2, rfl, j1, j2, hb7⟩; obtain ⟨a1, s1, rfl, _⟩ := id j1; obtain ⟨a2, s2, rfl, _⟩ := id j2; have hs7 := hb7.size; have HR7 := hide (HR.out.keep (KeepT.of_below hb7) (KeepT.of_below hb7)); have HB7 := hide (HB.out.trans (hb7.mono hs1)); have J1 := hide j1; have J2 := hide j2; clear hb7 j1 j2)
               | (at_builtin; refine wpList_append_own_at _ rfl _ _ 50 rfl WB.heap.size 24 i0 (.slice none 0 0) 1 24 Try.underlying50 hi hz0 hz1 hz2 rfl (by decide) u14 k1 _ rfl (HR7.out.one.alloc _) ⟨w7.heap.size, 0, none⟩ 1 1 [.slice a1 _ s1] rfl rfl (one_new w7 _ _) (by intro u hu; simp at hu; subst hu; rfl) (by unfold maxLen; omega) (by omega) (by simp; omega) ?_; intro v8 w8 hown8 hgrow8 _ hat8; have hs8 := hgrow8.size; have hsec := HR7.out.second hgrow8; simp at hs8)
               | (at_builtin; refine wpList_append_own_at _ rfl _ _ 50 rfl WB.heap.size 24 i0 (.slice none 0 0) 1 24 Try.underlying50 hi hz0 hz1 hz2 rfl (by decide) u15 k1 _ rfl (hsec.alloc _) ⟨w8.heap.size, 0, none⟩ 1 1 [.slice a2 _ s2] rfl rfl (one_new w8 _ _) (by intro u hu; simp at hu; subst hu; rfl) (by unfold maxLen; omega) (by omega) (by simp; omega) ?_; intro v9 w9 hown9 hgrow9 _ hat9))
             have hb8 : Below WB.heap.size WB w8 := (HB7.out.alloc HB7.out.size _).grown hgrow8 (by simp; omega) (fun g hg => (HR7.out.one.lt g hg).1)
             have hb9 : Below WB.heap.size WB w9 := (hb8.alloc hb8.size _).grown hgrow9 (by simp; omega) (fun g hg => (HR7.out.two'.lt g hg).1)
             exact ⟨⟨k1 + 1, _, _, by omega, by go_num, HR7.out.more J1.out J2.out hown8 hgrow8 hat8 hown9 hgrow9 hat9, hb9⟩, by simp [intOf]; omega⟩
           · have hk5 : k1 = 5 := by omega
             subst hk5
             obtain ⟨f1, i1, u1, e1, hsum1, hc32, hst1⟩ := one_stats HT1.out
             have hdo : ∀ W, Below wr.heap.size wr W → Calls Try.prog 24 #[.pointer (some ⟨p.g.X, 0, none⟩), .agg #[.int .i64 a.K, .int .i64 a.A, .int .i64 a.B, .slice aT a.n cT], .int .i64 c.vocab] W (DoesK W2.heap.size W2 W p.g.X c P1 a) := fun W hb => by
               have h' := HT1.out.below hb
               have := one_does h' (a := a) (by
                 obtain ⟨r1, r2, r3, r4, r5⟩ := Hok.out
                 exact ⟨r1, r2, r3, r4.below h'.bel, r5⟩)
               rw [Hval.out] at this
               exact this
             have hax := (HB.out.block _ (lt_blk Hbx.out)).trans Hbx.out
             obtain ⟨x0, x1, x2, x3⟩ := act_cells hax
             have Hst1 := hide hst1
             have Hdo := hide hdo
             have Hax := hide hax
             have Hsum1 := hide hsum1
             have He1 := hide e1
             clear hst1 hdo hax hsum1 e1
             clear x0 x1 x2 x3 c0 c1 c2 c3 c4 c5 c6
             go_wp2_with (first
               | (go_at_call 18; refine (Hst1.out _ (Below.refl _ _)).mono ?_; clear Hst1; rintro e w7 ⟨rfl, hb7⟩; have hbA : Below wr.heap.size wr (w7.alloc (.cells #[.int .i64 f1, .int .i64 i1, .int .i64 u1] 40)) := (hb7.alloc hb7.size _); obtain ⟨x0, x1, x2, x3⟩ := act_cells ((hbA.block _ (lt_blk Hax.out)).trans Hax.out); obtain ⟨c0, c1, c2, c3, c4, c5, c6⟩ := cfg_cells (((HT1.out.below hbA).bel.block bc (lt_blk Hcb2.out)).trans Hcb2.out); have HbA := hide hbA; have Hb7 := hide hb7; clear hb7 hbA c0 c1 c2 c3 c4 c6)
               | (go_at_call 24; refine (Hdo.out _ HbA.out).mono ?_; clear Hdo; rintro e w8 ⟨code, v8, P2, rfl, hk8, hT8, hact⟩; have Hk8 := hide hk8; have HT8 := hide hT8; have Hact := hide hact; clear hk8 hT8 hact x0 x1 x2 x3 c5))
             obtain ⟨f2, i2, u2, e2, hsum2, _, hst2⟩ := one_stats HT8.out
             have hstb : w8.heap[w7.heap.size]? = some (.cells #[.int .i64 f1, .int .i64 i1, .int .i64 u1] 40 (0, 0)) := Hk8.out _ (by unfold mutT; decide) _ _ _ (alloc_new w7 _)
             refine (hst2 _ (Below.refl _ _)).mono ?_
             clear hst2
             rintro e w9 ⟨rfl, hb9⟩
             obtain ⟨W10, hW10⟩ : ∃ W10, W10 = w9.alloc (.cells #[.int .i64 f2, .int .i64 i2, .int .i64 u2] 40) := ⟨_, rfl⟩
             have hbT : Below w8.heap.size w8 W10 := by rw [hW10]; exact hb9.alloc hb9.size _
             have hz : W10.heap[w9.heap.size]? = some (.cells #[.int .i64 f2, .int .i64 i2, .int .i64 u2] 40 (0, 0)) := by rw [hW10]; exact alloc_new _ _
             have HT10 := hide (HT8.out.below hbT)
             have HR10 : Hid (RowsK WB.heap.size W10 c P1.L 5 u14 u15 f g) := ((HR.out.keep (KeepT.of_below HbA.out) (KeepT.of_below HbA.out)).keep (Hk8.out _ (by unfold mutT; decide)) (Hk8.out _ (by unfold mutT; decide))).keep (KeepT.of_below hbT) (KeepT.of_below hbT)
             obtain ⟨y0, y1, y2⟩ := stat_cells ((hbT.block _ (lt_blk hstb)).trans hstb)
             obtain ⟨z0, z1, z2⟩ := stat_cells hz
             obtain ⟨c0, c1, c2, c3, c4, c5, c6⟩ := cfg_cells ((HT10.out.bel.block bc (lt_blk Hcb2.out)).trans Hcb2.out)
             have Hsum2 := hide hsum2
             clear hsum2
             have hsame : code ≠ 0 → f2 = f1 ∧ i2 = i1 ∧ u2 = u1 := fun h0 => by
               have e := (Hact.out.still h0).stat (c := c)
               rw [← e2, ← He1.out] at e
               injection e with ea eb
               injection eb with eb ec
               exact ⟨ea, eb, ec⟩
             have Hsame := hide hsame
             have HW10 := hide hW10
             clear hsame hW10 hbT hz hstb hb9 c1 c2 c3 c4 c5 c6 e2
             go_upto_region 28 with fail
             rw [← HW10.out]
             go_cut [134] from 42 to 178 (fun v W => v = .bool false ∧ W = W10)
             case first =>
               by_cases h0 : code = 0
               · subst h0
                 have s2 := Hsum2.out
                 go_wp2
                 go_meet
                 case rel => exact ⟨rfl, rfl⟩
               · obtain ⟨rfl, rfl, rfl⟩ := Hsame.out h0
                 have h0' : ¬ (code : Int) = 0 := by omega
                 have s2 := Hsum2.out
                 go_wp2
                 go_meet
                 case rel => exact ⟨rfl, rfl⟩
             case rest =>
               obtain ⟨rfl, rfl⟩ := hcut
               obtain ⟨W10, hwt⟩ : ∃ W10, W10 = wc := ⟨_, rfl⟩
               subst hwt
               obtain ⟨g14, c14, e14, hc14⟩ : ∃ g c, u14 = .slice (some ⟨g, 0, none⟩) 5 c ∧ (5 ≤ c ∧ c ≤ maxLen) := by
                 obtain ⟨_, ⟨_, q⟩ | ⟨g, cap, cur, q1, _, _, q2, q3, _⟩⟩ := HR10.out.one
                 · omega
                 · exact ⟨g, cap, q1, q2, q3⟩
               obtain ⟨g15, c15, e15, hc15⟩ : ∃ g c, u15 = .slice (some ⟨g, 0, none⟩) 5 c ∧ (5 ≤ c ∧ c ≤ maxLen) := by
                 obtain ⟨_, ⟨_, q⟩ | ⟨g, cap, cur, q1, _, _, q2, q3, _⟩⟩ := HR10.out.two'
                 · omega
                 · exact ⟨g, cap, q1, q2, q3⟩
               subst e14 e15
               unfold maxLen at hc14 hc15
               clear y0 y1 y2 z0 z1 z2 c0 Hsame HW10 Hsum1 Hsum2 He1 HR HbA Hb7 Hk8
               go_wp2
               go_loopw [24] (fun i wr => ∃ k3 : Nat, k3 ≤ 5 ∧ i = .int .i64 k3 ∧ Hid (Below W10.heap.size W10 wr)) (fun i _ => 5 - (intOf i).toNat)
               case atStart => exact ⟨0, Nat.zero_le _, rfl, Below.refl _ _⟩
               case round =>
                 obtain ⟨k3, hk3, rfl, HB3⟩ := hrel
                 have HT3 := hide (HT10.out.below HB3.out)
                 by_cases hl3 : k3 < 5
                 · obtain ⟨c0, c1, c2, c3, c4, c5, c6⟩ := cfg_cells ((HT3.out.bel.block bc (lt_blk Hcb2.out)).trans Hcb2.out)
                   have hse := one_seen HT3.out k3 (by omega)
                   have Hse := hide hse
                   clear hse c0 c1 c3 c4 c5 c6
                   go_upto_region 36 with (first
                     | (go_at_call 23; refine Hse.out.mono ?_; clear Hse; rintro e w11 ⟨r1, r2, rfl, j1, j2, hb11⟩; have HB11 := hide (HB3.out.trans (hb11.mono HB3.out.size)); have HR11 := hide (HR10.out.keep (KeepT.of_below HB11.out) (KeepT.of_below HB11.out)); obtain ⟨t1, t2⟩ := HR11.out.cell hl3; have J1 := hide j1; have J2 := hide j2; clear hb11 j1 j2)
                     | (go_at_call 25; refine (ksame2 J1.out (HR11.out.ts k3 hl3)).mono ?_; rintro e w12 ⟨b1, rfl, hsm1, hb12⟩; have Hsm1 := hide hsm1; have J3 := hide (J2.out.bel hb12); have J4 := hide ((HR11.out.ws k3 hl3).bel hb12); have t2' := (hb12.cell (p := ⟨g15, k3, none⟩) (kcell_lt t2)).trans t2; have HB12 := hide (HB11.out.trans (hb12.mono HB11.out.size)); clear J1 J2 hsm1 hb12)
                     | (go_at_call 25; refine (ksame2 J3.out J4.out).mono ?_; rintro e w13 ⟨b2, rfl, hsm2, hb13⟩; have Hsm2 := hide hsm2; have HB13 := hide (HB12.out.trans (hb13.mono HB12.out.size)); clear J3 J4 hsm2 hb13))
                   have hall : ((k3 : Int) = mineOf a ∧ code = 0) ∨ (b1 = true ∧ b2 = true) := by
                     rcases Hact.out.alone k3 with e | e
                     · exact .inr ⟨Hsm1.out (by rw [e]) (by rw [e]), Hsm2.out (by rw [e]) (by rw [e])⟩
                     · exact .inl e
                   have Hall := hide hall
                   clear hall Hsm1 Hsm2
                   go_cut [13, 21, 24, 178] from 135 to 178 (fun m co k v W => m = .int .i64 (mineOf a) ∧ co = .int .i64 code ∧ k = .int .i64 k3 ∧ v = .bool false ∧ W = w13)
                   case first =>
                     rcases Hall.out with ⟨hm, h0⟩ | ⟨rfl, rfl⟩
                     · subst h0
                       cases b1 <;> cases b2
                       all_goals go_wp2
                       all_goals go_meet
                       all_goals exact ⟨by first | rfl | simp [hm], by first | rfl | simp, by first | rfl | simp [hm], rfl, rfl⟩
                     · go_wp2
                       go_meet
                       case rel => exact ⟨rfl, rfl, rfl, rfl, rfl⟩
                   case rest =>
                     obtain ⟨rfl, rfl, rfl, rfl, rfl⟩ := hcut
                     go_wp2
                     exact ⟨⟨k3 + 1, by omega, by go_num, HB13.out⟩, by simp [intOf]; omega⟩
                 · have hk35 : k3 = 5 := by omega
                   subst hk35
                   go_wp2
                   exact ⟨⟨kk + 1, P2, by omega, by go_num, HT3.out⟩, by simp [intOf]; omega⟩
     · go_wp2
       go_ret
       exact ⟨rfl, Hbw.out.trans (HT.out.bel.mono Hbw.out.size)⟩
end Go.Proofs.Ytlmflighkkgikaa
