import Derived.Test.YtlmflighkkgikaaGreatP23
import Derived.Test.YtlmflighkkgikaaGreatP25
import Derived.Test.YtlmflighkkgikaaGreatP44

namespace Go.Proofs.YtlmflighkkgikaaGreat
open Go.RowKit
attribute [local go_sem ↓] Go.wp_at_zero Go.wp_at_succ
theorem same_nils (w : World) : Calls Tryz.prog 16 #[.slice none 0 0, .slice none 0 0] w fun e w' => e = .returned (.bool true) ∧ ∃ q, w' = w.drewN q := by
 have hn : Ints w (.slice none 0 0) 0 (fun _ => 0) := ⟨none, 0, rfl, by omega, by simp [maxLen], fun h => absurd h (by omega)⟩
 refine (lawsame_any 0 0 _ _ _ _ w hn hn).mono ?_
 rintro e w' ⟨rfl, hq⟩
 rw [sameI_refl]
 exact ⟨rfl, hq⟩
theorem keep_nil (B N : Nat) (vl : Value) (w w1 : World) (h : BookI w B N vl) (hb : Below w.heap.size w w1) (hN : N ≤ 4999999999990) :
   Calls Tryz.prog 50 #[.pointer (some ⟨B, 0, none⟩), .slice none 0 0] w1 fun e w2 => e = .returned (.tuple #[]) ∧ Asked w B N vl w2 := by
 refine (keep_one B N 0 (.slice none 0 0) vl (fun _ => 0) w w1 h hb (by simpa using World.ownsRow_nil _ _ _ _) hN (by omega)).mono ?_
 rintro e w3 ⟨rfl, vl', q1, q2, q3, _, _, q6⟩
 exact ⟨rfl, N + 1, vl', by omega, q1, q2, q3, q6⟩
set_option maxRecDepth 100000 in
set_option maxHeartbeats 4000000 in
theorem asks_tok_none (B0 K : Nat) (p : PD) (w : World) (hp : PairI B0 K w p) (B N : Nat) (vl : Value) (hbk : BookI w B N vl) (hN : N ≤ 4999999999990) (H A Bv C : Int) (vT : Value) (hA : -9223372036854775808 ≤ A ∧ A ≤ 9223372036854775807) (hno : assoc p.L A = none) :
   Calls Tryz.prog 22 #[.pointer (some ⟨p.Pb, 0, none⟩), .agg #[.int .i64 H, .int .i64 2, .int .i64 A, .int .i64 Bv, .int .i64 C, vT], .pointer (some ⟨B, 0, none⟩)] w fun e w' => e = .returned (.bool true) ∧ Asked w B N vl w' := by
 have hnil := fun w a n c n' c' => Go.Lib.run_eql_slice_nil (P := Tryz.prog) w 36 3 a n c n' c' Tryz.underlying36
 obtain ⟨w0, hG⟩ := AskG.mk' hp H 2 A Bv C vT
 have hread := hG.held
 have htk := reftok_none hG.ref hno
 have hxt := fun q => htokens_none p.F (fun _ => True) p.g p.c p.L p.il A (w0.drewN q) (hread.below (bdrew w0 q)) hA hno
 have hkp : ∀ q, Calls Tryz.prog 50 #[.pointer (some ⟨B, 0, none⟩), .slice none 0 0] (w0.drewN q) fun e w3 => e = .returned (.tuple #[]) ∧ Asked w B N vl w3 := fun q =>
   keep_nil B N vl w (w0.drewN q) hbk (hG.below.trans ((bdrew w0 q).mono hG.below.size)) hN
 have HG := hide hG
 have Htk := hide htk
 have Hxt := hide hxt
 have Hkp := hide hkp
 obtain ⟨y0, y1, y2, y3, y4, y5⟩ := op_cells hG.box
 obtain ⟨u0, u1⟩ := pair_cells hG.pair
 clear hG htk hxt hkp hread hp hbk hno
 go_enter Tryz.func22, Tryz.ntmps22
 go_wp2
 rw [← HG.out.is]
 go_region_held3 (fun w' => w'.cell? ⟨p.Pb, 1, none⟩ = some (.pointer (some ⟨p.Y, 0, none⟩)) ∧ w'.cell? ⟨w.heap.size, 2, none⟩ = some (.int .i64 A)) (go_keep)
   (first | (go_at_call 51; refine (Htk.out 1).mono ?_; rintro e w1 ⟨rfl, e1⟩; subst e1))
 go_wp2
 go_region_held3 (fun w' => w'.cell? ⟨p.Pb, 0, none⟩ = some (.pointer (some ⟨p.g.X, 0, none⟩)) ∧ w'.cell? ⟨w.heap.size, 2, none⟩ = some (.int .i64 A)) (go_keep)
   (first | (go_at_call 15; refine (Hxt.out _).mono ?_; rintro e w2 ⟨rfl, e2⟩; subst e2))
 go_wp2_with (first
   | (go_at_call 16; refine (same_nils _).mono ?_; rintro e w3 ⟨rfl, q3, e3⟩; subst e3)
   | (go_at_call 50; refine (Hkp.out _).mono ?_; rintro e w4 ⟨rfl, hfin⟩; have Hfin := hide hfin; clear hfin)
   | (go_at_call 25; refine Calls_use (num_any _ _) ?_))
 go_ret
 exact ⟨rfl, Hfin.out⟩
set_option maxRecDepth 100000 in
set_option maxHeartbeats 4000000 in
theorem asks_log_none (B0 K : Nat) (p : PD) (w : World) (hp : PairI B0 K w p) (B N : Nat) (vl : Value) (hbk : BookI w B N vl) (hN : N ≤ 4999999999990) (H A Bv C : Int) (vT : Value) (hA : -9223372036854775808 ≤ A ∧ A ≤ 9223372036854775807) (hno : assoc p.L A = none) :
   Calls Tryz.prog 22 #[.pointer (some ⟨p.Pb, 0, none⟩), .agg #[.int .i64 H, .int .i64 3, .int .i64 A, .int .i64 Bv, .int .i64 C, vT], .pointer (some ⟨B, 0, none⟩)] w fun e w' => e = .returned (.bool true) ∧ Asked w B N vl w' := by
 have hnil := fun w a n c n' c' => Go.Lib.run_eql_slice_nil (P := Tryz.prog) w 36 3 a n c n' c' Tryz.underlying36
 obtain ⟨w0, hG⟩ := AskG.mk' hp H 3 A Bv C vT
 have hread := hG.held
 have htk := reftok_none hG.ref hno
 have hxt := fun q => hlogits_none p.F (fun _ => True) p.g p.c p.L p.il A (w0.drewN q) (hread.below (bdrew w0 q)) hA hno
 have hkp : ∀ q, Calls Tryz.prog 50 #[.pointer (some ⟨B, 0, none⟩), .slice none 0 0] (w0.drewN q) fun e w3 => e = .returned (.tuple #[]) ∧ Asked w B N vl w3 := fun q =>
   keep_nil B N vl w (w0.drewN q) hbk (hG.below.trans ((bdrew w0 q).mono hG.below.size)) hN
 have HG := hide hG
 have Htk := hide htk
 have Hxt := hide hxt
 have Hkp := hide hkp
 obtain ⟨y0, y1, y2, y3, y4, y5⟩ := op_cells hG.box
 obtain ⟨u0, u1⟩ := pair_cells hG.pair
 clear hG htk hxt hkp hread hp hbk hno
 go_enter Tryz.func22, Tryz.ntmps22
 go_wp2
 rw [← HG.out.is]
 go_region_held3 (fun w' => w'.cell? ⟨p.Pb, 1, none⟩ = some (.pointer (some ⟨p.Y, 0, none⟩)) ∧ w'.cell? ⟨w.heap.size, 2, none⟩ = some (.int .i64 A)) (go_keep)
   (first | (go_at_call 51; refine (Htk.out 1).mono ?_; rintro e w1 ⟨rfl, e1⟩; subst e1))
 go_wp2
 go_region_held3 (fun w' => w'.cell? ⟨p.Pb, 0, none⟩ = some (.pointer (some ⟨p.g.X, 0, none⟩)) ∧ w'.cell? ⟨w.heap.size, 2, none⟩ = some (.int .i64 A)) (go_keep)
   (first | (go_at_call 52; refine (Hxt.out _).mono ?_; rintro e w2 ⟨rfl, e2⟩; subst e2))
 go_wp2_with (first
   | (go_at_call 16; refine (same_nils _).mono ?_; rintro e w3 ⟨rfl, q3, e3⟩; subst e3)
   | (go_at_call 50; refine (Hkp.out _).mono ?_; rintro e w4 ⟨rfl, hfin⟩; have Hfin := hide hfin; clear hfin)
   | (go_at_call 25; refine Calls_use (num_any _ _) ?_))
 go_ret
 exact ⟨rfl, Hfin.out⟩
set_option maxRecDepth 100000 in
set_option maxHeartbeats 4000000 in
theorem asks_log_some (B0 K : Nat) (p : PD) (w : World) (hp : PairI B0 K w p) (B N : Nat) (vl : Value) (hbk : BookI w B N vl) (hN : N ≤ 4999999999990) (H A Bv C : Int) (vT : Value) (hA : -9223372036854775808 ≤ A ∧ A ≤ 9223372036854775807)
   (k0 : Key) (ha : assoc p.L A = some k0) :
   Calls Tryz.prog 22 #[.pointer (some ⟨p.Pb, 0, none⟩), .agg #[.int .i64 H, .int .i64 3, .int .i64 A, .int .i64 Bv, .int .i64 C, vT], .pointer (some ⟨B, 0, none⟩)] w fun e w' => e = .returned (.bool true) ∧ Asked w B N vl w' := by
 obtain ⟨w0, hG⟩ := AskG.mk' hp H 3 A Bv C vT
 have hread := hG.held
 obtain ⟨hl1, hl2⟩ : 1 ≤ k0.1.length ∧ k0.1.length ≤ 40 := hp.ref.len _ (assoc_mem ha)
 obtain ⟨v1, v2⟩ := hp.cok.vocab
 have htoks : ∀ t ∈ k0.1, t < p.c.vocab := hp.ref.toks _ (assoc_mem ha)
 have htk := reftok_some hG.ref ha
 have hxt := fun q => hlogits_some p.F (fun _ => True) p.g p.c hp.cok p.L p.il A k0 (w0.drewN q) (hread.below (bdrew w0 q)) hA ha
 obtain ⟨T, eT⟩ : ∃ T, T = k0.1 := ⟨_, rfl⟩
 rw [← eT] at htk hxt hl1 hl2 htoks
 obtain ⟨f, ef⟩ : ∃ f, f = logitsOf p.c (xIn p.c (tkN T) (T.length - 1) p.c.layers) := ⟨_, rfl⟩
 rw [← ef] at hxt
 have htr : ∀ w2 q v, Below w0.heap.size w0 w2 → TokT w0 v T → Calls Tryz.prog 54 #[.pointer (some ⟨p.d, 0, none⟩), v] (w2.drewN q) fun e w3 => ∃ s vX, e = .returned (.pointer (some ⟨s, 0, none⟩)) ∧ s < w3.heap.size ∧ w3.cell? ⟨s, 2, none⟩ = some vX ∧ IntsT w3 vX p.c.width (xIn p.c (tkN T) (T.length - 1) p.c.layers) ∧ Below w2.heap.size w2 w3 := fun w2 q v hb hv => by
   refine (refthrough_any p.c hp.cok p.d T.length v (tkN T) (w2.drewN q) ((hG.ref.below hb).below (bdrew w2 q)).dec (show IntsT (w2.drewN q) v T.length (fun j => (tkN T j : Int)) from hv.keep (KeepT.of_below (show Below w0.heap.size w0 (w2.drewN q) from ⟨hb.os, hb.tape, hb.output, hb.size, hb.block⟩))) (fun j hj => htoks _ (by unfold tkN; rw [List.getD_eq_getElem?_getD]; simp [hj])) (by omega)).mono ?_
   rintro e w3 ⟨s, bK, bV, vX, rv, xs, rfl, hseen, hX, hb3⟩
   exact ⟨s, vX, rfl, lt_blk hseen.seen, by rw [cell_blk hseen.seen]; rfl, hX hl1, ⟨hb3.os, hb3.tape, hb3.output, hb3.size, hb3.block⟩⟩
 have hlg : ∀ w3 s vX, Below w0.heap.size w0 w3 → s < w3.heap.size → w3.cell? ⟨s, 2, none⟩ = some vX → IntsT w3 vX p.c.width (xIn p.c (tkN T) (T.length - 1) p.c.layers) → Calls Tryz.prog 53 #[.pointer (some ⟨p.d, 0, none⟩), .pointer (some ⟨s, 0, none⟩)] w3 fun e w4 => ∃ r, e = .returned r ∧ IntsT w4 r p.c.vocab f ∧ Below w3.heap.size w3 w4 := fun w3 s vX hb hs hc hX => by
   rw [ef]
   exact reflogits_any p.c hp.cok p.d s w0 w3 vX _ hG.ref.dec hb hs hc hX (fun j => xIn_bd _ _ _ _ _)
 have hsm : ∀ w4 b v, w4.ownsRow w0.heap.size 3 1 (.slice (some ⟨b, 0, none⟩) p.c.vocab p.c.vocab) p.c.vocab ((List.range p.c.vocab).map fun j => .int .i64 (f j)) → IntsT w4 v p.c.vocab f → Calls Tryz.prog 16 #[.slice (some ⟨b, 0, none⟩) p.c.vocab p.c.vocab, v] w4 fun e w' => e = .returned (.bool true) ∧ ∃ q, w' = w4.drewN q := fun w4 b v h1 h3 => by
   refine (lawsame_any _ _ _ v _ _ w4 (IntsT.of_owns h1).ints h3.ints).mono ?_
   rintro e w' ⟨rfl, hq⟩
   rw [sameI_refl]
   exact ⟨rfl, hq⟩
 have hkp : ∀ w4 q b, w4.ownsRow w0.heap.size 3 1 (.slice (some ⟨b, 0, none⟩) p.c.vocab p.c.vocab) p.c.vocab ((List.range p.c.vocab).map fun j => .int .i64 (f j)) → Below w0.heap.size w0 w4 → Calls Tryz.prog 50 #[.pointer (some ⟨B, 0, none⟩), .slice (some ⟨b, 0, none⟩) p.c.vocab p.c.vocab] (w4.drewN q) fun e w5 => e = .returned (.tuple #[]) ∧ Asked w B N vl w5 := fun w4 q b h1 h2 => by
   have hb2 : Below w.heap.size w (w4.drewN q) := hG.below.trans ((h2.mono hG.below.size).trans ((bdrew w4 q).mono (Nat.le_trans hG.below.size h2.size)))
   refine (keep_one B N _ _ vl _ w (w4.drewN q) hbk hb2 (owns_base (show (w4.drewN q).ownsRow _ _ _ _ _ _ from h1) hG.below.size) hN (by omega)).mono ?_
   rintro e w3 ⟨rfl, vl', q1, q2, q3, _, _, q6⟩
   exact ⟨rfl, N + 1, vl', by omega, q1, q2, q3, q6⟩
 have hY0 : w0.cell? ⟨p.Y, 0, none⟩ = some (.pointer (some ⟨p.d, 0, none⟩)) := by rw [cell_blk hG.ref.obj]; rfl
 have hYl := lt_blk hG.ref.obj
 have hPl := lt_blk hG.pair
 have HG := hide hG
 have Htk := hide htk
 have Hxt := hide hxt
 have Htr := hide htr
 have Hlg := hide hlg
 have Hsm := hide hsm
 have Hkp := hide hkp
 obtain ⟨y0, y1, y2, y3, y4, y5⟩ := op_cells hG.box
 obtain ⟨u0, u1⟩ := pair_cells hG.pair
 clear hG htk hxt htr hlg hsm hkp hread hp hbk ha htoks eT ef
 go_enter Tryz.func22, Tryz.ntmps22
 go_wp2
 rw [← HG.out.is]
 go_region_held3 (fun w' => w'.cell? ⟨p.Pb, 1, none⟩ = some (.pointer (some ⟨p.Y, 0, none⟩)) ∧ w'.cell? ⟨w.heap.size, 2, none⟩ = some (.int .i64 A)) (go_keep)
   (first | (go_at_call 51; refine (Htk.out 1).mono ?_; rintro e w1 ⟨at', ct, rfl, hv, e1⟩; subst e1; have Hv := hide hv; clear hv))
 go_wp2
 go_region_held3 (fun w' => w'.cell? ⟨p.Pb, 0, none⟩ = some (.pointer (some ⟨p.g.X, 0, none⟩)) ∧ w'.cell? ⟨w.heap.size, 2, none⟩ = some (.int .i64 A)) (go_keep)
   (first | (go_at_call 52; refine (Hxt.out _).mono ?_; rintro e w2 ⟨b, rfl, hr, hb2⟩; have Hr : Hid (w2.ownsRow w0.heap.size 3 1 (.slice (some ⟨b, 0, none⟩) p.c.vocab p.c.vocab) p.c.vocab ((List.range p.c.vocab).map fun j => .int .i64 (f j))) := hr.owns; have Hb2 : Hid (Below w0.heap.size w0 w2) := ⟨hb2.os, hb2.tape, hb2.output, hb2.size, hb2.block⟩; obtain ⟨z0, z1, z2, z3, z4, z5⟩ := op_cells ((Hb2.out.block _ (lt_blk HG.out.box)).trans HG.out.box); obtain ⟨t0, t1⟩ := pair_cells ((Hb2.out.block _ (lt_blk HG.out.pair)).trans HG.out.pair); have s0 := (Hb2.out.cell (p := ⟨p.Y, 0, none⟩) hYl).trans hY0; clear hr hb2))
 go_wp2
 go_region_held3 (fun w' => w'.cell? ⟨p.Pb, 1, none⟩ = some (.pointer (some ⟨p.Y, 0, none⟩)) ∧ w'.cell? ⟨p.Y, 0, none⟩ = some (.pointer (some ⟨p.d, 0, none⟩))) (go_keep)
   (first
     | (go_at_call 54; refine (Htr.out w2 _ _ Hb2.out Hv.out).mono ?_; rintro e w3 ⟨s, vX, rfl, hs, hcX, hX, hb3⟩; have HX := hide hX; have Hb3 : Hid (Below w0.heap.size w0 w3) := Hb2.out.trans (hb3.mono Hb2.out.size); have Hr3 : Hid (w3.ownsRow w0.heap.size 3 1 (.slice (some ⟨b, 0, none⟩) p.c.vocab p.c.vocab) p.c.vocab ((List.range p.c.vocab).map fun j => .int .i64 (f j))) := owns_below' Hr.out hb3; obtain ⟨m0, m1⟩ := pair_cells ((Hb3.out.block _ (lt_blk HG.out.pair)).trans HG.out.pair); have s3 := (Hb3.out.cell (p := ⟨p.Y, 0, none⟩) hYl).trans hY0; clear hX hb3)
     | (go_at_call 53; refine (Hlg.out w3 s vX Hb3.out hs hcX HX.out).mono ?_; rintro e w4 ⟨r, rfl, hr4, hb4⟩; have Hr4 := hide hr4; have Hb4 : Hid (Below w0.heap.size w0 w4) := Hb3.out.trans (hb4.mono Hb3.out.size); have HrO : Hid (w4.ownsRow w0.heap.size 3 1 (.slice (some ⟨b, 0, none⟩) p.c.vocab p.c.vocab) p.c.vocab ((List.range p.c.vocab).map fun j => .int .i64 (f j))) := owns_below' Hr3.out hb4; obtain ⟨n0, n1⟩ := pair_cells ((Hb4.out.block _ (lt_blk HG.out.pair)).trans HG.out.pair); have s4 := (Hb4.out.cell (p := ⟨p.Y, 0, none⟩) hYl).trans hY0; clear hr4 hb4))
 go_wp2_with (first
   | (go_at_call 16; refine (Hsm.out w4 b r HrO.out Hr4.out).mono ?_; rintro e w5 ⟨rfl, q5, e5⟩; subst e5)
   | (go_at_call 50; refine (Hkp.out w4 _ b HrO.out Hb4.out).mono ?_; rintro e w6 ⟨rfl, hfin⟩; have Hfin := hide hfin; clear hfin)
   | (go_at_call 25; refine Calls_use (num_any _ _) ?_))
 go_ret
 exact ⟨rfl, Hfin.out⟩
end Go.Proofs.YtlmflighkkgikaaGreat
