import Derived.Test.YtlmflighkkgikaaGreatP47

namespace Go.Proofs.YtlmflighkkgikaaGreat
open Go.RowKit
attribute [local go_sem ↓] Go.wp_at_zero Go.wp_at_succ
set_option maxRecDepth 100000 in
set_option maxHeartbeats 4000000 in
theorem asks_kept_arg (B0 K : Nat) (p : PD) (w : World) (hp : PairI B0 K w p) (B N : Nat) (vl : Value) (hbk : BookI w B N vl) (hN : N ≤ 4999999999980) (H A Bv C : Int) (vT : Value) (hA : -9223372036854775808 ≤ A ∧ A ≤ 9223372036854775807)
   (k0 : Key) (ha : assoc p.L A = some k0) (hin : ¬ ((0 ≤ Bv ∧ Bv < p.c.layers) ∧ (0 ≤ C ∧ C < (k0.1).length))) :
   Calls Tryz.prog 22 #[.pointer (some ⟨p.Pb, 0, none⟩), .agg #[.int .i64 H, .int .i64 4, .int .i64 A, .int .i64 Bv, .int .i64 C, vT], .pointer (some ⟨B, 0, none⟩)] w fun e w' => e = .returned (.bool true) ∧ Asked w B N vl w' := by
 have hnil := fun w a n c n' c' => Go.Lib.run_eql_slice_nil (P := Tryz.prog) w 36 3 a n c n' c' Tryz.underlying36
 obtain ⟨w0, hG⟩ := AskG.mk' hp H 4 A Bv C vT
 have hread := hG.held
 have htk := reftok_some hG.ref ha
 have hxt := fun q => hkept_arg p.F (fun _ => True) p.g p.c hp.cok p.L p.il A Bv C k0 (w0.drewN q) (hread.below (bdrew w0 q)) hA ha hin
 have hkp1 : ∀ W, Below w0.heap.size w0 W → Calls Tryz.prog 50 #[.pointer (some ⟨B, 0, none⟩), .slice none 0 0] W fun e w3 => e = .returned (.tuple #[]) ∧ ∃ vl', Asked1 w B N vl w3 vl' := fun W hW =>
   keep_nil1 B N vl w W hbk (hG.below.trans (hW.mono hG.below.size)) (by omega)
 have hkp2 : ∀ w3 vl', Asked1 w B N vl w3 vl' → Calls Tryz.prog 50 #[.pointer (some ⟨B, 0, none⟩), .slice none 0 0] w3 fun e w4 => e = .returned (.tuple #[]) ∧ Asked w B N vl w4 := fun w3 vl' h => by
   refine (keep_nil1 B (N + 1) vl' w3 w3 h.1 (Below.refl _ _) (by omega)).mono ?_
   rintro e w4 ⟨rfl, vl2, h2⟩
   exact ⟨rfl, h.two h2⟩
 have hY0 : w0.cell? ⟨p.Y, 0, none⟩ = some (.pointer (some ⟨p.d, 0, none⟩)) := by rw [cell_blk hG.ref.obj]; rfl
 have hYl := lt_blk hG.ref.obj
 have hd2 : w0.cell? ⟨p.d, 2, none⟩ = some (.int .i64 p.c.layers) := by
   obtain ⟨vW, h1, _⟩ := hG.ref.dec
   rw [cell_blk h1]; rfl
 have hdl := hG.ref.dec.lt
 have hcase : decide (0 ≤ Bv) = false ∨ (0 ≤ Bv ∧ decide (Bv < (p.c.layers : Int)) = false) ∨ (0 ≤ Bv ∧ Bv < p.c.layers ∧ decide (0 ≤ C) = false) ∨ (0 ≤ Bv ∧ Bv < p.c.layers ∧ 0 ≤ C ∧ decide (C < ((k0.1).length : Int)) = false) := by simp only [decide_eq_false_iff_not]; omega
 have HG := hide hG
 have Htk := hide htk
 have Hxt := hide hxt
 have Hkp1 := hide hkp1
 have Hkp2 := hide hkp2
 have Hcase := hide hcase
 obtain ⟨y0, y1, y2, y3, y4, y5⟩ := op_cells hG.box
 obtain ⟨u0, u1⟩ := pair_cells hG.pair
 generalize k0.1 = T at *
 clear hG htk hxt hkp1 hkp2 hread hp hbk ha hin hcase
 go_enter Tryz.func22, Tryz.ntmps22
 go_wp2
 rw [← HG.out.is]
 go_region_held3 (fun w' => w'.cell? ⟨p.Pb, 1, none⟩ = some (.pointer (some ⟨p.Y, 0, none⟩)) ∧ w'.cell? ⟨w.heap.size, 2, none⟩ = some (.int .i64 A)) (go_keep)
   (first | (go_at_call 51; refine (Htk.out 1).mono ?_; rintro e w1 ⟨at', ct, rfl, hv, e1⟩; subst e1; have Hv := hide hv; clear hv))
 go_wp2
 go_region_held3 (fun w' => w'.cell? ⟨p.Pb, 0, none⟩ = some (.pointer (some ⟨p.g.X, 0, none⟩)) ∧ w'.cell? ⟨w.heap.size, 2, none⟩ = some (.int .i64 A) ∧ w'.cell? ⟨w.heap.size, 3, none⟩ = some (.int .i64 Bv) ∧ w'.cell? ⟨w.heap.size, 4, none⟩ = some (.int .i64 C)) (go_keep)
   (first | (go_at_call 55; refine (Hxt.out _).mono ?_; rintro e w2 ⟨hb2, rfl⟩; have Hb2 : Hid (Below w0.heap.size w0 w2) := ⟨hb2.os, hb2.tape, hb2.output, hb2.size, hb2.block⟩; obtain ⟨z0, z1, z2, z3, z4, z5⟩ := op_cells ((Hb2.out.block _ (lt_blk HG.out.box)).trans HG.out.box); obtain ⟨t0, t1⟩ := pair_cells ((Hb2.out.block _ (lt_blk HG.out.pair)).trans HG.out.pair); have s0 := (Hb2.out.cell (p := ⟨p.Y, 0, none⟩) hYl).trans hY0; have s2 := (Hb2.out.cell (p := ⟨p.d, 2, none⟩) hdl).trans hd2; clear hb2))
 go_wp2
 rcases Hcase.out with c1 | ⟨c1, c2⟩ | ⟨c1, c2, c3⟩ | ⟨c1, c2, c3, c4⟩
 all_goals (
   go_quiet (fail)
   have HbW : Hid (Below w0.heap.size w0 (w2.drewN nq)) := below_drewN Hb2.out nq
   generalize w2.drewN nq = W at HbW
   go_wp2_with (first
     | (go_at_call 16; refine (same_nils _).mono ?_; rintro e w3 ⟨rfl, q3, e3⟩; subst e3)
     | (go_at_call 50; refine (Hkp1.out _ (by first | exact HbW.out | exact below_drewN HbW.out _ | exact below_drewN (below_drewN HbW.out _) _)).mono ?_; rintro e w4 ⟨rfl, vl4, h4⟩; have H4 := hide h4; clear h4 Hkp1)
     | (go_at_call 50; refine (Hkp2.out _ _ H4.out).mono ?_; rintro e w5 ⟨rfl, hfin⟩; have Hfin := hide hfin; clear hfin)
     | (go_at_call 25; refine Calls_use (num_any _ _) ?_))
   go_ret
   exact ⟨rfl, Hfin.out⟩)
end Go.Proofs.YtlmflighkkgikaaGreat
