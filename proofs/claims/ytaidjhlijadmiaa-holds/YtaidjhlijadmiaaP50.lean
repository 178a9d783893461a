import Derived.Test.YtaidjhlijadmiaaP45

/-
  The statements' alive.
-/
namespace Go.Proofs.Ytaidjhlijadmiaa
open Go.RowKit
attribute [local go_sem ↓] Go.wp_at_zero Go.wp_at_succ

def aliveR : Raw := ⟨4, 2, 1, 1, 1, 4, 0⟩
def aliveT : Nat → Int := fun j => if j = 0 then 0 else if j = 1 then 1 else 2

theorem alive_ints (w : World) : IntsT (w.alloc (.cells #[.int .i64 0, .int .i64 1, .int .i64 2] 3)) (.slice (some ⟨w.heap.size, 0, none⟩) 3 3) 3 aliveT := by
  refine ⟨_, 3, rfl, by omega, by simp [maxLen], fun _ => ⟨w.heap.size, 0, _, _, rfl, alloc_new w _, fun j hj => ?_⟩⟩
  match j, hj with
  | 0, _ => rfl
  | 1, _ => rfl
  | 2, _ => rfl

set_option maxRecDepth 100000 in
set_option maxHeartbeats 4000000 in
theorem alive_any (w : World) : Calls Try.prog 6 #[] w fun e w' => e = .returned (.bool true) ∧ Below w.heap.size w w' := by
  have hright : aliveR.right := by unfold Raw.right aliveR; decide
  have hcok : aliveR.cfg.ok := Raw.cfg_ok hright (by unfold aliveR; decide)
  have hmd := made_any aliveR.cfg hcok aliveR hright rfl w
  have hcode : codeOf aliveR.cfg 1 3 aliveT [] 0 = 0 := (codeOf_yes (fun i hi => absurd hi (by simp)) (by simp) (by omega) (by omega) (fun j hj => by
    unfold badTok aliveT aliveR
    simp only [Raw.cfg]
    match j, hj with
    | 0, _ => decide
    | 1, _ => decide
    | 2, _ => decide) (by decide)).symm
  have hraw : aliveR.agg = .agg #[.int .i64 4, .int .i64 2, .int .i64 1, .int .i64 1, .int .i64 1, .int .i64 4, .int .i64 0] := rfl
  rw [hraw] at hmd
  have hcr : ∀ p w1, PairI w.heap.size w1 p → p.c = aliveR.cfg → p.L = [] → Calls Try.prog 13 #[.pointer (some ⟨p.g.X, 0, none⟩), .int .i64 1, .slice (some ⟨w1.heap.size, 0, none⟩) 3 3] (w1.alloc (.cells #[.int .i64 0, .int .i64 1, .int .i64 2] 3)) fun e w2 => e = .returned (.int .i64 0) ∧ Below w.heap.size w1 w2 ∧ KeepT 46 w1 w2 ∧ ∃ sv blk, ReadI (fun _ => True) w2 p.g aliveR.cfg [(1, natsOf 3 aliveT)] sv blk := fun p w1 hp hpc hpL => by
    have hb : Below w1.heap.size w1 (w1.alloc (.cells #[.int .i64 0, .int .i64 1, .int .i64 2] 3)) := (Below.refl _ _).alloc (Nat.le_refl _) _
    have hheld := hp.held.below hb
    rw [hpc, hpL] at hheld
    refine (create_law _ p.g 3 aliveR.cfg hcok 1 aliveT _ [] _ p.F _ hheld (by omega) (alive_ints w1) (fun _ _ => trivial) (by simp)).mono ?_
    have e0 : codeOf aliveR.cfg 1 3 aliveT [] (cntT p.tl ([] : List (Int × List Nat)).length) = 0 := hcode
    rintro e w2 ⟨he, hx⟩
    rw [e0] at he
    obtain ⟨sv, blk, hr⟩ := (hx.yes e0).read
    have hs1 : w.heap.size ≤ w1.heap.size := by have := hp.loY; have := lt_blk hp.ref.obj; omega
    refine ⟨he, ⟨hx.only.os, hx.only.tape, hx.only.output, by have := hx.only.size; simp at this; omega, fun k hk => ?_⟩, (KeepT.alloc _ _).trans (hx.keep _ (by unfold mutT; decide)), sv, blk, hr⟩
    rw [hx.only.block k (by simp; omega) (fun hF => by have := (hp.lo k hF).1; omega)]
    exact alloc_old _ _ _ (by omega)
  have hsm : ∀ w2 w3 r, Below w2.heap.size w2 w3 → w3.ownsRow w2.heap.size 3 1 r 3 ((List.range 3).map fun j => .int .i64 (tkI (natsOf 3 aliveT) j)) → Calls Try.prog 15 #[r, .slice (some ⟨w3.heap.size, 0, none⟩) 3 3] (w3.alloc (.cells #[.int .i64 0, .int .i64 1, .int .i64 2] 3)) fun e w' => e = .returned (.bool true) ∧ ∃ q, w' = (w3.alloc (.cells #[.int .i64 0, .int .i64 1, .int .i64 2] 3)).drewN q := fun w2 w3 r hb hr => by
    have h1 := (IntsT.of_owns (hr.alloc (.cells #[.int .i64 0, .int .i64 1, .int .i64 2] 3))).ints
    refine (lawsame_any _ _ _ _ _ _ _ h1 ((alive_ints w3).congr (g := fun j => tkI (natsOf 3 aliveT) j) (fun j hj => by
      match j, hj with
      | 0, _ => rfl
      | 1, _ => rfl
      | 2, _ => rfl)).ints).mono ?_
    rintro e w' ⟨rfl, hq⟩
    rw [sameI_refl]
    exact ⟨rfl, hq⟩
  have htk : ∀ p w2, (∃ sv blk, ReadI (fun _ => True) w2 p aliveR.cfg [(1, natsOf 3 aliveT)] sv blk) → Calls Try.prog 14 #[.pointer (some ⟨p.X, 0, none⟩), .int .i64 1] w2 fun e w3 => ∃ r, e = .returned (.tuple #[r, .int .i64 0]) ∧ w3.ownsRow w2.heap.size 3 1 r 3 ((List.range 3).map fun j => .int .i64 (tkI (natsOf 3 aliveT) j)) ∧ Below w2.heap.size w2 w3 := fun p w2 ⟨sv, blk, hr⟩ =>
    htokens_some (fun _ => True) p aliveR.cfg hcok [(1, natsOf 3 aliveT)] sv blk 1 0 w2 hr (by omega) (by simp) rfl (fun j hj => absurd hj (by omega))
  have Hmd := hide hmd
  have Hcr := hide hcr
  have Hsm := hide hsm
  have Htk := hide htk
  clear hmd hcr hsm htk
  go_enter Try.func6, Try.ntmps6
  go_wp2_with (first
    | (go_at_call 7; refine Hmd.out.mono ?_; rintro e w1 ⟨p, rfl, hpc, hpL, hpn, hpb, hp, hb1⟩; obtain ⟨u0, u1⟩ := pair_cells hp.obj; have hPl := lt_blk hp.obj; have Hp := hide hp; have Hb1 := hide hb1; have Hpc := hide hpc; have HpL := hide hpL; clear hp hb1 hpc hpL)
    | (go_at_call 13; refine (Hcr.out p w1 Hp.out Hpc.out HpL.out).mono ?_; rintro e w2 ⟨rfl, hb2, hk2, hr2⟩; obtain ⟨t0, t1⟩ := pair_cells (hk2 _ _ _ Hp.out.obj); have Hb2 := hide hb2; have Hr2 := hide hr2; clear hb2 hk2 hr2)
    | (go_at_call 14; refine (Htk.out p.g w2 Hr2.out).mono ?_; rintro e w3 ⟨r, rfl, hr3, hb3⟩; have Hr3 := hide hr3; have Hb3 := hide hb3; clear hr3 hb3)
    | (go_at_call 15; refine (Hsm.out w2 w3 r Hb3.out Hr3.out).mono ?_; rintro e w4 ⟨rfl, q4, e4⟩; subst e4))
  go_ret
  have h2 := Hb1.out.trans Hb2.out
  have h3 := h2.trans (Hb3.out.mono h2.size)
  exact ⟨rfl, below_drewN' (h3.alloc h3.size _) q4⟩

end Go.Proofs.Ytaidjhlijadmiaa
