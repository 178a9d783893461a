import Derived.Test.YtlmflighkkgikaaGreatP44
import Derived.Test.YtlmflighkkgikaaGreatP48
import Derived.Test.YtlmflighkkgikaaGreatP49
import Derived.Test.YtlmflighkkgikaaGreatP50

namespace Go.Proofs.YtlmflighkkgikaaGreat
open Go.RowKit
attribute [local go_sem ↓] Go.wp_at_zero Go.wp_at_succ
theorem asks_all (B0 K : Nat) (p : PD) (w : World) (hp : PairI B0 K w p) (B N : Nat) (vl : Value) (hbk : BookI w B N vl) (hN : N ≤ 4999999999980) (H Kd A Bv C : Int) (vT : Value) (hA : -9223372036854775808 ≤ A ∧ A ≤ 9223372036854775807) (hK : Kd = 2 ∨ Kd = 3 ∨ Kd = 4) :
   Calls Tryz.prog 22 #[.pointer (some ⟨p.Pb, 0, none⟩), .agg #[.int .i64 H, .int .i64 Kd, .int .i64 A, .int .i64 Bv, .int .i64 C, vT], .pointer (some ⟨B, 0, none⟩)] w fun e w' => e = .returned (.bool true) ∧ Asked w B N vl w' := by
 cases ha : assoc p.L A with
 | none =>
   rcases hK with rfl | rfl | rfl
   · exact asks_tok_none B0 K p w hp B N vl hbk (by omega) H A Bv C vT hA ha
   · exact asks_log_none B0 K p w hp B N vl hbk (by omega) H A Bv C vT hA ha
   · exact asks_kept_none B0 K p w hp B N vl hbk hN H A Bv C vT hA ha
 | some k0 =>
   rcases hK with rfl | rfl | rfl
   · exact asks_tok_some B0 K p w hp B N vl hbk (by omega) H A Bv C vT hA k0 ha
   · exact asks_log_some B0 K p w hp B N vl hbk (by omega) H A Bv C vT hA k0 ha
   · by_cases hin : (0 ≤ Bv ∧ Bv < p.c.layers) ∧ (0 ≤ C ∧ C < k0.1.length)
     · obtain ⟨bv, rfl⟩ : ∃ bv : Nat, Bv = bv := ⟨Bv.toNat, by omega⟩
       obtain ⟨cv, rfl⟩ : ∃ cv : Nat, C = cv := ⟨C.toNat, by omega⟩
       exact asks_kept_some B0 K p w hp B N vl hbk hN H A bv cv vT hA k0 ha (by omega) (by omega)
     · exact asks_kept_arg B0 K p w hp B N vl hbk hN H A Bv C vT hA k0 ha hin
theorem decodes_all (B0 K : Nat) (p : PD) (w : World) (hp : PairI B0 K w p) (hB0 : B0 ≤ w.heap.size) (hK : K ≤ w.heap.size) (B N : Nat) (vl : Value) (hbk : BookI w B N vl) (hE : ∀ b, BookE w N vl b → ¬ atB p.vI b) (hN : N ≤ 4999999999980) (H A Bv C : Int) (vT : Value) (hA : -9223372036854775808 ≤ A ∧ A ≤ 9223372036854775807) (hn : -9223372036854775808 ≤ Bv ∧ Bv ≤ 9223372036854775807) (hnt : p.nt ≤ 5000000000000) :
   Calls Tryz.prog 21 #[.pointer (some ⟨p.Pb, 0, none⟩), .agg #[.int .i64 H, .int .i64 6, .int .i64 A, .int .i64 Bv, .int .i64 C, vT], .pointer (some ⟨B, 0, none⟩)] w fun e w' => e = .returned (.bool true) ∧ ∃ p' N' vl', Stepped B0 K w p B N vl w' p' N' vl' := by
 by_cases h : ∃ L1 L2 k0, p.L = L1 ++ (A, k0) :: L2 ∧ assoc L1 A = none ∧ decodeS p.c k0 ((L1 ++ L2).map (fun x => x.2)) p.il Bv = 0
 · obtain ⟨L1, L2, k0, h1, h2, h3⟩ := h
   exact decodes_yes B0 K p w hp hB0 hK B N vl hbk hE hN H A Bv C vT hA hn hnt L1 L2 k0 h1 h2 h3
 · exact decodes_no B0 K p w hp hB0 hK B N vl hbk hE hN H A Bv C vT hA hn hnt (fun L1 L2 k0 h1 h2 h3 => h ⟨L1, L2, k0, h1, h2, h3⟩)
theorem stats_same {B0 K : Nat} {p : PD} {w : World} (hp : PairI B0 K w p) : nUsed p.c.slots (p.L.map (·.2)) = (usedOf p.c.slots (toksOf p.L)).length + manyT p.L p.L.length ∧ (freeS p.c (p.L.map (·.2)) p.il : Int) = (p.c.blocks : Int) - ((usedOf p.c.slots (toksOf p.L)).length + manyT p.L p.L.length : Nat) - p.il.length := by
 have e := nUsed_ref p.c.slots hp.cok.slots.1 p.L p.nt hp.ref.tails (fun x hx => List.length_pos_iff.1 (hp.ref.len x hx).1)
 have hf := hp.held.pureOf.2
 refine ⟨e, ?_⟩
 rw [← e]
 unfold freeS
 omega
theorem both_step {B0 K : Nat} {w w0 w2 : World} {p : PD} {L' : List (Int × Key)} {il' : List (List Nat)} {vL' vI' : Value} {B N : Nat} {vl : Value} (hp : PairI B0 K w p) (hB0 : B0 ≤ w.heap.size) (hK : K ≤ w.heap.size) (hbk : BookI w B N vl) (hE : ∀ b, BookE w N vl b → ¬ atB p.vI b) (hb0 : Below w.heap.size w w0) (hm : MidI (fun _ => True) K w0 w2 p L' il' p.nt vL' vI') : ∃ p' N' vl', Stepped B0 K w p B N vl w2 p' N' vl' := by
 have hs := hb0.size
 obtain ⟨p', h⟩ := hm.moved (hp.below hb0) (by omega) (by omega) (by omega)
 exact ⟨p', N, vl, (h.base hb0).step hbk hE⟩
set_option maxRecDepth 100000 in
set_option maxHeartbeats 8000000 in
theorem step_any (B0 K : Nat) (p : PD) (w : World) (hp : PairI B0 K w p) (hB0 : B0 ≤ w.heap.size) (hK : K ≤ w.heap.size) (B N : Nat) (vl : Value) (hbk : BookI w B N vl) (hE : ∀ b, BookE w N vl b → ¬ atB p.vI b) (hN : N ≤ 4999999999980) (hnt : p.nt ≤ 5000000000000) (H Kd A Bv C : Int) (vT : Value) (n : Nat) (f : Nat → Int) (hT : ArgI B0 w vT n f)
   (hA : -9223372036854775808 ≤ A ∧ A ≤ 9223372036854775807) (hBv : -9223372036854775808 ≤ Bv ∧ Bv ≤ 9223372036854775807) :
   Calls Tryz.prog 10 #[.pointer (some ⟨p.Pb, 0, none⟩), .agg #[.int .i64 H, .int .i64 Kd, .int .i64 A, .int .i64 Bv, .int .i64 C, vT], .pointer (some ⟨B, 0, none⟩)] w fun e w' => e = .returned (.bool true) ∧ ∃ p' N' vl', Stepped B0 K w p B N vl w' p' N' vl' := by
 obtain ⟨w0, hw0⟩ : ∃ w0, w0 = w.alloc (.cells #[.int .i64 H, .int .i64 Kd, .int .i64 A, .int .i64 Bv, .int .i64 C, vT] 38) := ⟨_, rfl⟩
 have hb0 : Below w.heap.size w w0 := by rw [hw0]; exact (Below.refl _ _).alloc (Nat.le_refl _) _
 have x0 : w0.heap[w.heap.size]? = some (.cells #[.int .i64 H, .int .i64 Kd, .int .i64 A, .int .i64 Bv, .int .i64 C, vT] 38 (0, 0)) := by rw [hw0]; exact alloc_new _ _
 have hp0 := hp.below hb0
 have hbk0 : BookI w0 B N vl := hbk.keep (KeepT.of_below hb0) (KeepT.of_below hb0) (KeepT.of_below hb0) (KeepT.of_below hb0)
 have hE0 : ∀ b, BookE w0 N vl b → ¬ atB p.vI b := fun b hb => hE b (BookE.below hb0 hbk.ownlt hb)
 have hs0 := hb0.size
 have hT0 : ArgI B0 w0 vT n f := hT.keep (fun k hk => hb0.block k (by omega))
 have hobj0 := (hb0.block _ (lt_blk hp.obj)).trans hp.obj
 have HW0 := hide hw0
 have Hx0 := hide x0
 have Hobj0 := hide hobj0
 obtain ⟨y0, y1, y2, y3, y4, y5⟩ := op_cells x0
 obtain ⟨u0, u1⟩ := pair_cells hobj0
 by_cases k1 : Kd = 1 ∨ Kd = 5
 · have hfin : ∀ w1, (∃ p', Moved B0 K w0 p w1 p') → ∃ p' N' vl', Stepped B0 K w p B N vl w1 p' N' vl' := fun w1 ⟨p', h⟩ => ⟨p', N, vl, (h.base hb0).step hbk hE⟩
   have Hfin := hide hfin
   have hpu : Calls Tryz.prog 20 #[.pointer (some ⟨p.Pb, 0, none⟩), .agg #[.int .i64 H, .int .i64 Kd, .int .i64 A, .int .i64 Bv, .int .i64 C, vT]] w0 fun e w' => e = .returned (.bool true) ∧ ∃ p', Moved B0 K w0 p w' p' := by
     rcases k1 with rfl | rfl
     · exact puts_Create B0 K p w0 hp0 (by omega) (by omega) H A Bv C vT n f hT0 hA hnt
     · exact puts_Append B0 K p w0 hp0 (by omega) (by omega) H A Bv C vT n f hT0 hA hnt
   have Hpu := hide hpu
   clear hpu hfin hw0 hp hp0 hbk hbk0 hT hT0 hb0 hE hE0 hobj0 x0
   rcases k1 with rfl | rfl
   all_goals (
     go_enter Tryz.func10, Tryz.ntmps10
     go_wp2_with (go_at_call 20; rw [← HW0.out]; refine Hpu.out.mono ?_; rintro e w1 ⟨rfl, h1⟩; have H1 := hide h1; clear h1)
     go_ret
     exact ⟨rfl, Hfin.out _ H1.out⟩)
 by_cases k2 : Kd = 2 ∨ Kd = 3 ∨ Kd = 4
 · have has := asks_all B0 K p w0 hp0 B N vl hbk0 hN H Kd A Bv C vT hA k2
   have hfin : ∀ w1, Asked w0 B N vl w1 → ∃ p' N' vl', Stepped B0 K w p B N vl w1 p' N' vl' := fun w1 h => by
     obtain ⟨N', vl', h'⟩ := Asked.step hp0 hbk0 hE0 h
     exact ⟨p, N', vl', h'.base hb0 hbk.ownlt⟩
   have Has := hide has
   have Hfin := hide hfin
   clear has hfin hw0 hp hp0 hbk hbk0 hT hT0 hb0 hE hE0 hobj0 x0
   rcases k2 with rfl | rfl | rfl
   all_goals (
     go_enter Tryz.func10, Tryz.ntmps10
     go_wp2_with (go_at_call 22; rw [← HW0.out]; refine Has.out.mono ?_; rintro e w1 ⟨rfl, h1⟩; have H1 := hide h1; clear h1)
     go_ret
     exact ⟨rfl, Hfin.out _ H1.out⟩)
 by_cases k6 : Kd = 6
 · subst k6
   have hde := decodes_all B0 K p w0 hp0 (by omega) (by omega) B N vl hbk0 hE0 hN H A Bv C vT hA hBv hnt
   have hfin : ∀ w1, (∃ p' N' vl', Stepped B0 K w0 p B N vl w1 p' N' vl') → ∃ p' N' vl', Stepped B0 K w p B N vl w1 p' N' vl' := fun w1 ⟨p', N', vl', h⟩ => ⟨p', N', vl', h.base hb0 hbk.ownlt⟩
   have Hde := hide hde
   have Hfin := hide hfin
   clear hde hfin hw0 hp hp0 hbk hbk0 hT hT0 hb0 hE hE0 hobj0 x0
   go_enter Tryz.func10, Tryz.ntmps10
   go_wp2_with (go_at_call 21; rw [← HW0.out]; refine Hde.out.mono ?_; rintro e w1 ⟨rfl, h1⟩; have H1 := hide h1; clear h1)
   go_ret
   exact ⟨rfl, Hfin.out _ H1.out⟩
 by_cases k7 : Kd = 7
 · subst k7
   obtain ⟨code, L', il', hX, hY⟩ := xfork p w0 hp.cok hp0.held hp0.ref A Bv hA hBv
   have hY' : ∀ w1 q, XTo (fun _ => True) w0 p L' il' w1 → Calls Tryz.prog 24 #[.pointer (some ⟨p.Y, 0, none⟩), .int .i64 A, .int .i64 Bv] (w1.drewN q) fun e w2 => e = .returned (.int .i64 code) ∧ ∃ vL' vI', MidI (fun _ => True) K w0 w2 p L' il' p.nt vL' vI' := fun w1 q hx => by
     refine (hY w1 q hx).mono ?_
     rintro e w2 ⟨rfl, hr⟩
     exact ⟨rfl, mid_of hp0 hx hr⟩
   have hfin : ∀ w2 vL' vI', MidI (fun _ => True) K w0 w2 p L' il' p.nt vL' vI' → ∃ p' N' vl', Stepped B0 K w p B N vl w2 p' N' vl' := fun w2 vL' vI' hm => both_step hp hB0 hK hbk hE hb0 hm
   have HX := hide hX
   have HY := hide hY'
   have Hfin := hide hfin
   clear hX hY hY' hfin hw0 hp hp0 hbk hbk0 hT hT0 hb0 hE hE0 hobj0 x0
   go_enter Tryz.func10, Tryz.ntmps10
   go_wp2
   rw [← HW0.out]
   go_region_held3 (fun w' => w'.cell? ⟨p.Pb, 0, none⟩ = some (.pointer (some ⟨p.g.X, 0, none⟩)) ∧ w'.cell? ⟨w.heap.size, 2, none⟩ = some (.int .i64 A) ∧ w'.cell? ⟨w.heap.size, 3, none⟩ = some (.int .i64 Bv)) (go_keep)
     (first | (go_at_call 23; refine (HX.out 1).mono ?_; rintro e w1 ⟨rfl, hx⟩; obtain ⟨z0, z1, z2, z3, z4, z5⟩ := op_cells (hx.1.kept 38 (by unfold mutT; decide) _ _ _ Hx0.out); obtain ⟨t0, t1⟩ := pair_cells (hx.1.kept 46 (by unfold mutT; decide) _ _ _ Hobj0.out); have Hx := hide hx; clear hx))
   go_wp2
   go_region_held3 (fun w' => w'.cell? ⟨p.Pb, 1, none⟩ = some (.pointer (some ⟨p.Y, 0, none⟩)) ∧ w'.cell? ⟨w.heap.size, 2, none⟩ = some (.int .i64 A) ∧ w'.cell? ⟨w.heap.size, 3, none⟩ = some (.int .i64 Bv)) (go_keep)
     (first | (go_at_call 24; refine (HY.out w1 _ Hx.out).mono ?_; rintro e w2 ⟨rfl, vL', vI', hm⟩; obtain ⟨z0, z1, z2, z3, z4, z5⟩ := op_cells (hm.keep 38 (by unfold quietT mutT; decide) _ _ _ Hx0.out); obtain ⟨t0, t1⟩ := pair_cells (hm.keep 46 (by unfold quietT mutT; decide) _ _ _ Hobj0.out); have Hm := hide hm; clear hm))
   go_wp2_with (go_at_call 25; refine Calls_use (num_any _ _) ?_)
   go_ret
   exact ⟨rfl, Hfin.out _ _ _ Hm.out⟩
 by_cases k8 : Kd = 8
 · subst k8
   obtain ⟨code, L', il', hX, hY⟩ := xfree p w0 hp.cok hp0.held hp0.ref A hA
   have hY' : ∀ w1 q, XTo (fun _ => True) w0 p L' il' w1 → Calls Tryz.prog 27 #[.pointer (some ⟨p.Y, 0, none⟩), .int .i64 A] (w1.drewN q) fun e w2 => e = .returned (.int .i64 code) ∧ ∃ vL' vI', MidI (fun _ => True) K w0 w2 p L' il' p.nt vL' vI' := fun w1 q hx => by
     refine (hY w1 q hx).mono ?_
     rintro e w2 ⟨rfl, hr⟩
     exact ⟨rfl, mid_of hp0 hx hr⟩
   have hfin : ∀ w2 vL' vI', MidI (fun _ => True) K w0 w2 p L' il' p.nt vL' vI' → ∃ p' N' vl', Stepped B0 K w p B N vl w2 p' N' vl' := fun w2 vL' vI' hm => both_step hp hB0 hK hbk hE hb0 hm
   have HX := hide hX
   have HY := hide hY'
   have Hfin := hide hfin
   clear hX hY hY' hfin hw0 hp hp0 hbk hbk0 hT hT0 hb0 hE hE0 hobj0 x0
   go_enter Tryz.func10, Tryz.ntmps10
   go_wp2
   rw [← HW0.out]
   go_region_held3 (fun w' => w'.cell? ⟨p.Pb, 0, none⟩ = some (.pointer (some ⟨p.g.X, 0, none⟩)) ∧ w'.cell? ⟨w.heap.size, 2, none⟩ = some (.int .i64 A)) (go_keep)
     (first | (go_at_call 26; refine (HX.out 1).mono ?_; rintro e w1 ⟨rfl, hx⟩; obtain ⟨z0, z1, z2, z3, z4, z5⟩ := op_cells (hx.1.kept 38 (by unfold mutT; decide) _ _ _ Hx0.out); obtain ⟨t0, t1⟩ := pair_cells (hx.1.kept 46 (by unfold mutT; decide) _ _ _ Hobj0.out); have Hx := hide hx; clear hx))
   go_wp2
   go_region_held3 (fun w' => w'.cell? ⟨p.Pb, 1, none⟩ = some (.pointer (some ⟨p.Y, 0, none⟩)) ∧ w'.cell? ⟨w.heap.size, 2, none⟩ = some (.int .i64 A)) (go_keep)
     (first | (go_at_call 27; refine (HY.out w1 _ Hx.out).mono ?_; rintro e w2 ⟨rfl, vL', vI', hm⟩; obtain ⟨z0, z1, z2, z3, z4, z5⟩ := op_cells (hm.keep 38 (by unfold quietT mutT; decide) _ _ _ Hx0.out); obtain ⟨t0, t1⟩ := pair_cells (hm.keep 46 (by unfold quietT mutT; decide) _ _ _ Hobj0.out); have Hm := hide hm; clear hm))
   go_wp2_with (go_at_call 25; refine Calls_use (num_any _ _) ?_)
   go_ret
   exact ⟨rfl, Hfin.out _ _ _ Hm.out⟩
 by_cases k9 : Kd = 9
 · subst k9
   obtain ⟨code, L', il', hX, hY⟩ := xevict p w0 hp.cok hp0.held hp0.ref A
   have hY' : ∀ w1 q, XTo (fun _ => True) w0 p L' il' w1 → Calls Tryz.prog 29 #[.pointer (some ⟨p.Y, 0, none⟩), .int .i64 A] (w1.drewN q) fun e w2 => e = .returned (.int .i64 code) ∧ ∃ vL' vI', MidI (fun _ => True) K w0 w2 p L' il' p.nt vL' vI' := fun w1 q hx => by
     refine (hY w1 q hx).mono ?_
     rintro e w2 ⟨rfl, hr⟩
     exact ⟨rfl, mid_of hp0 hx hr⟩
   have hfin : ∀ w2 vL' vI', MidI (fun _ => True) K w0 w2 p L' il' p.nt vL' vI' → ∃ p' N' vl', Stepped B0 K w p B N vl w2 p' N' vl' := fun w2 vL' vI' hm => both_step hp hB0 hK hbk hE hb0 hm
   have HX := hide hX
   have HY := hide hY'
   have Hfin := hide hfin
   clear hX hY hY' hfin hw0 hp hp0 hbk hbk0 hT hT0 hb0 hE hE0 hobj0 x0
   go_enter Tryz.func10, Tryz.ntmps10
   go_wp2
   rw [← HW0.out]
   go_region_held3 (fun w' => w'.cell? ⟨p.Pb, 0, none⟩ = some (.pointer (some ⟨p.g.X, 0, none⟩)) ∧ w'.cell? ⟨w.heap.size, 2, none⟩ = some (.int .i64 A)) (go_keep)
     (first | (go_at_call 28; refine (HX.out 1).mono ?_; rintro e w1 ⟨rfl, hx⟩; obtain ⟨z0, z1, z2, z3, z4, z5⟩ := op_cells (hx.1.kept 38 (by unfold mutT; decide) _ _ _ Hx0.out); obtain ⟨t0, t1⟩ := pair_cells (hx.1.kept 46 (by unfold mutT; decide) _ _ _ Hobj0.out); have Hx := hide hx; clear hx))
   go_wp2
   go_region_held3 (fun w' => w'.cell? ⟨p.Pb, 1, none⟩ = some (.pointer (some ⟨p.Y, 0, none⟩)) ∧ w'.cell? ⟨w.heap.size, 2, none⟩ = some (.int .i64 A)) (go_keep)
     (first | (go_at_call 29; refine (HY.out w1 _ Hx.out).mono ?_; rintro e w2 ⟨rfl, vL', vI', hm⟩; obtain ⟨z0, z1, z2, z3, z4, z5⟩ := op_cells (hm.keep 38 (by unfold quietT mutT; decide) _ _ _ Hx0.out); obtain ⟨t0, t1⟩ := pair_cells (hm.keep 46 (by unfold quietT mutT; decide) _ _ _ Hobj0.out); have Hm := hide hm; clear hm))
   go_wp2
   go_ret
   exact ⟨rfl, Hfin.out _ _ _ Hm.out⟩
 by_cases k10 : Kd = 10
 · subst k10
   obtain ⟨es1, es2⟩ := stats_same hp
   have hst1 : ∀ W, Below w0.heap.size w0 W → Calls Tryz.prog 12 #[.pointer (some ⟨p.g.X, 0, none⟩)] W fun e w1 => e = .returned (.agg #[.int .i64 (freeS p.c (p.L.map (fun x => x.2)) p.il), .int .i64 p.il.length, .int .i64 (nUsed p.c.slots (p.L.map (fun x => x.2)))]) ∧ Below W.heap.size W w1 := fun W hW => hstats_any p.F _ p.g p.c hp.cok p.L p.il W (hp0.held.below hW)
   have hst2 : ∀ W, Below w0.heap.size w0 W → Calls Tryz.prog 13 #[.pointer (some ⟨p.Y, 0, none⟩)] W fun e w1 => e = .returned (.agg #[.int .i64 (freeS p.c (p.L.map (fun x => x.2)) p.il), .int .i64 p.il.length, .int .i64 (nUsed p.c.slots (p.L.map (fun x => x.2)))]) ∧ Below W.heap.size W w1 := fun W hW => by
     refine (refstats_any p.Y p.d p.c hp.cok p.L _ p.il p.nt p.vL p.vI W (hp0.ref.below hW)).mono ?_
     rintro e w1 ⟨rfl, hb⟩
     refine ⟨?_, hb⟩
     rw [es1, es2]
   generalize (freeS p.c (p.L.map (fun x => x.2)) p.il : Int) = s1 at hst1 hst2
   generalize (p.il.length : Int) = s2 at hst1 hst2
   generalize (nUsed p.c.slots (p.L.map (fun x => x.2)) : Int) = s3 at hst1 hst2
   have hfin : ∀ w2, Below w0.heap.size w0 w2 → ∃ p' N' vl', Stepped B0 K w p B N vl w2 p' N' vl' := fun w2 hb2 => by
     have hb := hb0.trans (hb2.mono hs0)
     obtain ⟨h1, h2⟩ := hbk.keepE (KeepT.of_below hb) (KeepT.of_below hb) (fun b cur fr _ hh => KeepT.of_below hb _ _ _ hh) (KeepT.of_below hb)
     exact ⟨p, N, vl, rfl, hp.below hb, by omega, fun k hk => .inl hk, fun k hk => .inl hk, h1, by omega, fun k hk => .inl hk, fun b hb' => .inl (h2 b hb'), fun b hb' => hE b (h2 b hb'), Only.of_below hb _, fun e _ => KeepT.of_below hb, fun k cur fr _ hh => KeepT.of_below hb _ _ _ hh⟩
   have Hst1 := hide hst1
   have Hst2 := hide hst2
   have Hfin := hide hfin
   clear hst1 hst2 hfin hw0 hp hp0 hbk hbk0 hT hT0 hb0 hE hE0 hobj0 x0 es1 es2
   go_enter Tryz.func10, Tryz.ntmps10
   go_wp2
   rw [← HW0.out]
   go_region_held3 (fun w' => w'.cell? ⟨p.Pb, 0, none⟩ = some (.pointer (some ⟨p.g.X, 0, none⟩)) ∧ w'.cell? ⟨p.Pb, 1, none⟩ = some (.pointer (some ⟨p.Y, 0, none⟩))) (go_keep)
     (first
       | (go_at_call 12; refine (Hst1.out _ (by exact below_drewN (Below.refl _ _) 1)).mono ?_; rintro e w1 ⟨rfl, hb1⟩; have Hb1 : Hid (Below w0.heap.size w0 w1) := ⟨hb1.os, hb1.tape, hb1.output, hb1.size, hb1.block⟩; obtain ⟨t0, t1⟩ := pair_cells ((Hb1.out.block _ (lt_blk Hobj0.out)).trans Hobj0.out); clear hb1)
       | (go_at_call 13; refine (Hst2.out _ Hb1.out).mono ?_; rintro e w2 ⟨rfl, hb2⟩; have Hb2 : Hid (Below w0.heap.size w0 w2) := Hb1.out.trans (hb2.mono Hb1.out.size); obtain ⟨t0, t1⟩ := pair_cells ((Hb2.out.block _ (lt_blk Hobj0.out)).trans Hobj0.out); clear hb2))
   go_wp2
   go_ret
   exact ⟨rfl, Hfin.out _ Hb2.out⟩
 · have e1 : (Kd == 1) = false := by rw [beq_eq_false_iff_ne]; omega
   have e2 : (Kd == 2) = false := by rw [beq_eq_false_iff_ne]; omega
   have e3 : (Kd == 3) = false := by rw [beq_eq_false_iff_ne]; omega
   have e4 : (Kd == 4) = false := by rw [beq_eq_false_iff_ne]; omega
   have e5 : (Kd == 5) = false := by rw [beq_eq_false_iff_ne]; omega
   have e6 : (Kd == 6) = false := by rw [beq_eq_false_iff_ne]; omega
   have e7 : (Kd == 7) = false := by rw [beq_eq_false_iff_ne]; omega
   have e8 : (Kd == 8) = false := by rw [beq_eq_false_iff_ne]; omega
   have e9 : (Kd == 9) = false := by rw [beq_eq_false_iff_ne]; omega
   have e10 : (Kd == 10) = false := by rw [beq_eq_false_iff_ne]; omega
   have hfin : Stepped B0 K w p B N vl w0 p N vl := (⟨rfl, hp0, by omega, fun k hk => .inl hk, fun k hk => .inl hk, hbk0, by omega, fun k hk => .inl hk, fun b hb => .inl hb, hE0, Only.refl _ _, fun e _ => fun _ _ _ h => h, fun _ _ _ _ h => h⟩ : Stepped B0 K w0 p B N vl w0 p N vl).base hb0 hbk.ownlt
   have Hfin := hide hfin
   clear hfin hw0 hp hp0 hbk hbk0 hT hT0 hb0 hE hE0 hobj0 x0
   go_enter Tryz.func10, Tryz.ntmps10
   go_wp2
   go_ret
   exact ⟨rfl, p, N, vl, by rw [← HW0.out]; exact Hfin.out⟩
end Go.Proofs.YtlmflighkkgikaaGreat
