import Derived.Test.YtlmflighkkgikaaGreatP45

namespace Go.Proofs.YtlmflighkkgikaaGreat
open Go.RowKit
attribute [local go_sem ↓] Go.wp_at_zero Go.wp_at_succ
def Asked1 (w : World) (B N : Nat) (vl : Value) (w' : World) (vl' : Value) : Prop :=
 BookI w' B (N + 1) vl' ∧ (∀ k, vl'.ownBlock = some k → vl.ownBlock = some k ∨ w.heap.size ≤ k) ∧ Only (fun k => k = B ∨ vl.ownBlock = some k) w w' ∧ ∀ b, BookE w' (N + 1) vl' b → BookE w N vl b ∨ w.heap.size ≤ b
theorem Asked1.two {w w2 w3 : World} {B N : Nat} {vl vl' vl2 : Value} (h1 : Asked1 w B N vl w2 vl') (h2 : Asked1 w2 B (N + 1) vl' w3 vl2) : Asked w B N vl w3 := by
 obtain ⟨a1, a2, a3, a4⟩ := h1
 obtain ⟨b1, b2, b3, b4⟩ := h2
 have hs := a3.size
 refine ⟨N + 2, vl2, Nat.le_refl _, b1, fun k hk => ?_, a3.trans b3 (fun k hlt hk => ?_), fun b hb => (b4 b hb).elim (a4 b) (fun h => .inr (by omega))⟩
 · rcases b2 k hk with r | r
   · exact a2 k r
   · exact .inr (by omega)
 · rcases hk with hk | hk
   · exact .inl hk
   · rcases a2 k hk with r | r
     · exact .inr r
     · omega
theorem keep_nil1 (B N : Nat) (vl : Value) (w w1 : World) (h : BookI w B N vl) (hb : Below w.heap.size w w1) (hN : N ≤ 4999999999990) :
   Calls Tryz.prog 50 #[.pointer (some ⟨B, 0, none⟩), .slice none 0 0] w1 fun e w2 => e = .returned (.tuple #[]) ∧ ∃ vl', Asked1 w B N vl w2 vl' := by
 refine (keep_one B N 0 (.slice none 0 0) vl (fun _ => 0) w w1 h hb (by simpa using World.ownsRow_nil _ _ _ _) hN (by omega)).mono ?_
 rintro e w3 ⟨rfl, vl', q1, q2, q3, _, _, q6⟩
 exact ⟨rfl, vl', q1, q2, q3, q6⟩
set_option maxRecDepth 100000 in
set_option maxHeartbeats 4000000 in
theorem asks_kept_none (B0 K : Nat) (p : PD) (w : World) (hp : PairI B0 K w p) (B N : Nat) (vl : Value) (hbk : BookI w B N vl) (hN : N ≤ 4999999999980) (H A Bv C : Int) (vT : Value) (hA : -9223372036854775808 ≤ A ∧ A ≤ 9223372036854775807) (hno : assoc p.L A = none) :
   Calls Tryz.prog 22 #[.pointer (some ⟨p.Pb, 0, none⟩), .agg #[.int .i64 H, .int .i64 4, .int .i64 A, .int .i64 Bv, .int .i64 C, vT], .pointer (some ⟨B, 0, none⟩)] w fun e w' => e = .returned (.bool true) ∧ Asked w B N vl w' := by
 have hnil := fun w a n c n' c' => Go.Lib.run_eql_slice_nil (P := Tryz.prog) w 36 3 a n c n' c' Tryz.underlying36
 obtain ⟨w0, hG⟩ := AskG.mk' hp H 4 A Bv C vT
 have hread := hG.held
 have htk := reftok_none hG.ref hno
 have hxt := fun q => hkept_none p.F (fun _ => True) p.g p.c p.L p.il A Bv C (w0.drewN q) (hread.below (bdrew w0 q)) hA hno
 have hkp1 : ∀ W, Below w0.heap.size w0 W → Calls Tryz.prog 50 #[.pointer (some ⟨B, 0, none⟩), .slice none 0 0] W fun e w3 => e = .returned (.tuple #[]) ∧ ∃ vl', Asked1 w B N vl w3 vl' := fun W hW =>
   keep_nil1 B N vl w W hbk (hG.below.trans (hW.mono hG.below.size)) (by omega)
 have hkp2 : ∀ w3 vl', Asked1 w B N vl w3 vl' → Calls Tryz.prog 50 #[.pointer (some ⟨B, 0, none⟩), .slice none 0 0] w3 fun e w4 => e = .returned (.tuple #[]) ∧ Asked w B N vl w4 := fun w3 vl' h => by
   refine (keep_nil1 B (N + 1) vl' w3 w3 h.1 (Below.refl _ _) (by omega)).mono ?_
   rintro e w4 ⟨rfl, vl2, h2⟩
   exact ⟨rfl, h.two h2⟩
 have HG := hide hG
 have Htk := hide htk
 have Hxt := hide hxt
 have Hkp1 := hide hkp1
 have Hkp2 := hide hkp2
 obtain ⟨y0, y1, y2, y3, y4, y5⟩ := op_cells hG.box
 obtain ⟨u0, u1⟩ := pair_cells hG.pair
 clear hG htk hxt hkp1 hkp2 hread hp hbk hno
 go_enter Tryz.func22, Tryz.ntmps22
 go_wp2
 rw [← HG.out.is]
 go_region_held3 (fun w' => w'.cell? ⟨p.Pb, 1, none⟩ = some (.pointer (some ⟨p.Y, 0, none⟩)) ∧ w'.cell? ⟨w.heap.size, 2, none⟩ = some (.int .i64 A)) (go_keep)
   (first | (go_at_call 51; refine (Htk.out 1).mono ?_; rintro e w1 ⟨rfl, e1⟩; subst e1))
 go_wp2
 go_region_held3 (fun w' => w'.cell? ⟨p.Pb, 0, none⟩ = some (.pointer (some ⟨p.g.X, 0, none⟩)) ∧ w'.cell? ⟨w.heap.size, 2, none⟩ = some (.int .i64 A) ∧ w'.cell? ⟨w.heap.size, 3, none⟩ = some (.int .i64 Bv) ∧ w'.cell? ⟨w.heap.size, 4, none⟩ = some (.int .i64 C)) (go_keep)
   (first | (go_at_call 55; refine (Hxt.out _).mono ?_; rintro e w2 ⟨rfl, e2⟩; subst e2))
 go_wp2
 go_quiet (fail)
 have HbW : Hid (Below w0.heap.size w0 ((w0.drewN 2).drewN nq)) := below_drewN (bdrew w0 2) nq
 generalize (w0.drewN 2).drewN nq = W at HbW
 go_wp2_with (first
   | (go_at_call 16; refine (same_nils _).mono ?_; rintro e w3 ⟨rfl, q3, e3⟩; subst e3)
   | (go_at_call 50; refine (Hkp1.out _ (by first | exact HbW.out | exact below_drewN HbW.out _ | exact below_drewN (below_drewN HbW.out _) _)).mono ?_; rintro e w4 ⟨rfl, vl4, h4⟩; have H4 := hide h4; clear h4 Hkp1)
   | (go_at_call 50; refine (Hkp2.out _ _ H4.out).mono ?_; rintro e w5 ⟨rfl, hfin⟩; have Hfin := hide hfin; clear hfin)
   | (go_at_call 25; refine Calls_use (num_any _ _) ?_))
 go_ret
 exact ⟨rfl, Hfin.out⟩
end Go.Proofs.YtlmflighkkgikaaGreat
