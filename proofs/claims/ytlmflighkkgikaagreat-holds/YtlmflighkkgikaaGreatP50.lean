import Derived.Test.YtlmflighkkgikaaGreatP47

namespace Go.Proofs.YtlmflighkkgikaaGreat
open Go.RowKit
attribute [local go_sem ↓] Go.wp_at_zero Go.wp_at_succ
structure KOne (w W w5 : World) (B N : Nat) (vl vl' r1 : Value) : Prop where
 book : BookI w5 B (N + 1) vl'
 own : ∀ k, vl'.ownBlock = some k → vl.ownBlock = some k ∨ w.heap.size ≤ k
 only : Only (fun k => k = B ∨ vl.ownBlock = some k) w w5
 only1 : Only (fun k => k = B ∨ vl.ownBlock = some k ∨ r1.ownBlock = some k) W w5
 ok : BookOk (fun b => b < w.heap.size ∨ r1.ownBlock = some b ∨ W.heap.size ≤ b) w5 (N + 1) vl'
 ent : ∀ b, BookE w5 (N + 1) vl' b → BookE w N vl b ∨ w.heap.size ≤ b
structure KOut (base B2 : Nat) (W : World) (r1 r2 : Value) (n : Nat) (f1 f2 : Nat → Int) : Prop where
 le : base ≤ B2
 row1 : W.ownsRow base 3 1 r1 n ((List.range n).map fun j => .int .i64 (f1 j))
 lt1 : ∀ b, r1.ownBlock = some b → b < B2
 row2 : W.ownsRow B2 3 1 r2 n ((List.range n).map fun j => .int .i64 (f2 j))
theorem KOut.below {base B2 : Nat} {W W' : World} {r1 r2 : Value} {n : Nat} {f1 f2 : Nat → Int} (h : KOut base B2 W r1 r2 n f1 f2) (hb : Below W.heap.size W W') : KOut base B2 W' r1 r2 n f1 f2 :=
 ⟨h.le, owns_below' h.row1 hb, h.lt1, owns_below' h.row2 hb⟩
set_option maxRecDepth 100000 in
set_option maxHeartbeats 4000000 in
theorem asks_kept_some (B0 K : Nat) (p : PD) (w : World) (hp : PairI B0 K w p) (B N : Nat) (vl : Value) (hbk : BookI w B N vl) (hN : N ≤ 4999999999980) (H A : Int) (bv cv : Nat) (vT : Value) (hA : -9223372036854775808 ≤ A ∧ A ≤ 9223372036854775807)
   (k0 : Key) (ha : assoc p.L A = some k0) (hin1 : bv < p.c.layers) (hin2 : cv < (k0.1).length) :
   Calls Tryz.prog 22 #[.pointer (some ⟨p.Pb, 0, none⟩), .agg #[.int .i64 H, .int .i64 4, .int .i64 A, .int .i64 bv, .int .i64 cv, vT], .pointer (some ⟨B, 0, none⟩)] w fun e w' => e = .returned (.bool true) ∧ Asked w B N vl w' := by
 obtain ⟨w0, hG⟩ := AskG.mk' hp H 4 A bv cv vT
 have hread := hG.held
 obtain ⟨hl1, hl2⟩ : 1 ≤ k0.1.length ∧ k0.1.length ≤ 40 := hp.ref.len _ (assoc_mem ha)
 obtain ⟨la1, la2⟩ := hp.cok.layers
 obtain ⟨wd1, wd2⟩ := p.c.width_bd hp.cok
 have htoks : ∀ t ∈ k0.1, t < p.c.vocab := hp.ref.toks _ (assoc_mem ha)
 have htk := reftok_some hG.ref ha
 have hxt := fun q => hkept_some p.F (fun _ => True) p.g p.c hp.cok p.L p.il A bv cv k0 (w0.drewN q) (hread.below (bdrew w0 q)) hA ha (by omega)
 obtain ⟨T, eT⟩ : ∃ T, T = k0.1 := ⟨_, rfl⟩
 rw [← eT] at htk hxt hl1 hl2 htoks hin2
 obtain ⟨f1, ef1⟩ : ∃ f1, f1 = kOf p.c (tkN T) cv bv := ⟨_, rfl⟩
 obtain ⟨f2, ef2⟩ : ∃ f2, f2 = vOf p.c (tkN T) cv bv := ⟨_, rfl⟩
 have hxt' : ∀ q, Calls Tryz.prog 55 #[.pointer (some ⟨p.g.X, 0, none⟩), .int .i64 A, .int .i64 bv, .int .i64 cv] (w0.drewN q) fun e w2 => ∃ r1 r2 B2, e = .returned (.tuple #[r1, r2, .int .i64 0]) ∧ KOut w0.heap.size B2 w2 r1 r2 p.c.width f1 f2 ∧ Below w0.heap.size w0 w2 := fun q => by
   refine (hxt q).mono ?_
   rintro e w2 ⟨hb, r1, r2, B2, rfl, q1, q2, q3, q4⟩
   refine ⟨r1, r2, B2, rfl, ⟨q1, ?_, q3, ?_⟩, ⟨hb.os, hb.tape, hb.output, hb.size, hb.block⟩⟩
   · rw [ef1]; simpa using q2
   · rw [ef2]; simpa using q4
 have htr : ∀ W v, Below w0.heap.size w0 W → TokT w0 v T → Calls Tryz.prog 54 #[.pointer (some ⟨p.d, 0, none⟩), v] W fun e w3 => ∃ s bK bV gk gv ck cv' xk xv, e = .returned (.pointer (some ⟨s, 0, none⟩)) ∧ Below W.heap.size W w3 ∧
     w3.cell? ⟨s, 0, none⟩ = some (.slice (some ⟨bK, 0, none⟩) p.c.layers p.c.layers) ∧ w3.cell? ⟨s, 1, none⟩ = some (.slice (some ⟨bV, 0, none⟩) p.c.layers p.c.layers) ∧ w3.cell? ⟨bK, bv, none⟩ = some (.slice (some ⟨gk, 0, none⟩) T.length ck) ∧ w3.cell? ⟨bV, bv, none⟩ = some (.slice (some ⟨gv, 0, none⟩) T.length cv') ∧
     w3.cell? ⟨gk, cv, none⟩ = some xk ∧ w3.cell? ⟨gv, cv, none⟩ = some xv ∧ IntsT w3 xk p.c.width f1 ∧ IntsT w3 xv p.c.width f2 := fun W v hb hv => by
   refine (refthrough_any p.c hp.cok p.d T.length v (tkN T) W (hG.ref.below hb).dec (show IntsT W v T.length (fun j => (tkN T j : Int)) from hv.keep (KeepT.of_below hb)) (fun j hj => htoks _ (by unfold tkN; rw [List.getD_eq_getElem?_getD]; simp [hj])) (by omega)).mono ?_
   rintro e w3 ⟨s, bK, bV, vX, rv, xs, rfl, hseen, _, hb3⟩
   obtain ⟨arrK, k0, k1, k2⟩ := hseen.keys
   obtain ⟨arrV, v0, v1, v2⟩ := hseen.vals
   have row : ∀ r, r < 2 * p.c.layers → ∃ g cap, rv r = .slice (some ⟨g, 0, none⟩) T.length cap ∧ w3.cell? ⟨g, cv, none⟩ = some (xs r cv) := fun r hr => by
     have hrow := hseen.row r hr
     obtain ⟨g, hg⟩ : ∃ g, (rv r).ownBlock = some g := by
       obtain ⟨_, ⟨_, e⟩ | ⟨g, _, _, e, _⟩⟩ := hrow
       · omega
       · exact ⟨g, by rw [e]; rfl⟩
     obtain ⟨cap, e⟩ : ∃ cap, rv r = .slice (some ⟨g, 0, none⟩) T.length cap := by
       obtain ⟨_, ⟨e1, e⟩ | ⟨g', cap, _, e, _⟩⟩ := hrow
       · omega
       · rw [e] at hg; injection hg with hg; subst hg; exact ⟨cap, e⟩
     exact ⟨g, cap, e, owns_cell' hrow hg (by simp [hin2])⟩
   obtain ⟨gk, ck, ek, xk⟩ := row (2 * bv) (by omega)
   obtain ⟨gv, cv', ev, xv⟩ := row (2 * bv + 1) (by omega)
   have vk := hseen.vec (2 * bv) (by omega) cv hin2
   have vv := hseen.vec (2 * bv + 1) (by omega) cv hin2
   refine ⟨s, bK, bV, gk, gv, ck, cv', _, _, rfl, hb3, by rw [cell_blk hseen.seen]; rfl, by rw [cell_blk hseen.seen]; rfl, by rw [cell_blk k0, k2 bv hin1, ek], by rw [cell_blk v0, v2 bv hin1, ev], xk, xv, ?_, ?_⟩
   · rw [ef1]
     have e : rowOf p.c (tkN T) (2 * bv) cv = kOf p.c (tkN T) cv bv := by unfold rowOf; rw [if_pos (by omega), show 2 * bv / 2 = bv by omega]
     rw [← e]; exact vk
   · rw [ef2]
     have e : rowOf p.c (tkN T) (2 * bv + 1) cv = vOf p.c (tkN T) cv bv := by unfold rowOf; rw [if_neg (by omega), show (2 * bv + 1) / 2 = bv by omega]
     rw [← e]; exact vv
 have hsm : ∀ W r v g, IntsT W r p.c.width g → IntsT W v p.c.width g → Calls Tryz.prog 16 #[r, v] W fun e w' => e = .returned (.bool true) ∧ ∃ q, w' = W.drewN q := fun W r v g h1 h3 => by
   refine (lawsame_any _ _ r v _ _ W h1.ints h3.ints).mono ?_
   rintro e w' ⟨rfl, hq⟩
   rw [sameI_refl]
   exact ⟨rfl, hq⟩
 have hkp1 : ∀ W r1 r2 B2, Below w0.heap.size w0 W → KOut w0.heap.size B2 W r1 r2 p.c.width f1 f2 → Calls Tryz.prog 50 #[.pointer (some ⟨B, 0, none⟩), r1] W fun e w5 => e = .returned (.tuple #[]) ∧ ∃ vl', KOne w W w5 B N vl vl' r1 := fun W r1 r2 B2 hW ho => by
   refine (keep_one B N _ r1 vl _ w W hbk (hG.below.trans (hW.mono hG.below.size)) (owns_base ho.row1 hG.below.size) (by omega) (by omega)).mono ?_
   rintro e w5 ⟨rfl, vl', q1, q2, q3, q4, q5, q6⟩
   exact ⟨rfl, vl', q1, q2, q3, q4, q5, q6⟩
 have hkp2 : ∀ W w5 r1 r2 B2 vl', Below w0.heap.size w0 W → KOut w0.heap.size B2 W r1 r2 p.c.width f1 f2 → KOne w W w5 B N vl vl' r1 → Calls Tryz.prog 50 #[.pointer (some ⟨B, 0, none⟩), r2] w5 fun e w6 => e = .returned (.tuple #[]) ∧ Asked w B N vl w6 := fun W w5 r1 r2 B2 vl' hW ho h =>
   keep_two B N p.c.width r1 r2 vl vl' f2 w W w5 B2 hbk (hG.below.trans (hW.mono hG.below.size)) (Nat.le_trans hG.below.size ho.le) ho.lt1 ho.row2 (by omega) (by omega) h.book h.own h.only h.only1 h.ok h.ent
 have hY0 : w0.cell? ⟨p.Y, 0, none⟩ = some (.pointer (some ⟨p.d, 0, none⟩)) := by rw [cell_blk hG.ref.obj]; rfl
 have hYl := lt_blk hG.ref.obj
 have hd2 : w0.cell? ⟨p.d, 2, none⟩ = some (.int .i64 p.c.layers) := by
   obtain ⟨vW, h1, _⟩ := hG.ref.dec
   rw [cell_blk h1]; rfl
 have hdl := hG.ref.dec.lt
 have HG := hide hG
 have Htk := hide htk
 have Hxt := hide hxt'
 have Htr := hide htr
 have Hsm := hide hsm
 have Hsm2 := hide hsm
 have Hkp1 := hide hkp1
 have Hkp2 := hide hkp2
 obtain ⟨y0, y1, y2, y3, y4, y5⟩ := op_cells hG.box
 obtain ⟨u0, u1⟩ := pair_cells hG.pair
 clear hG htk hxt hxt' htr hsm hkp1 hkp2 hread hp hbk ha htoks eT ef1 ef2
 go_enter Tryz.func22, Tryz.ntmps22
 go_wp2
 rw [← HG.out.is]
 go_region_held3 (fun w' => w'.cell? ⟨p.Pb, 1, none⟩ = some (.pointer (some ⟨p.Y, 0, none⟩)) ∧ w'.cell? ⟨w.heap.size, 2, none⟩ = some (.int .i64 A)) (go_keep)
   (first | (go_at_call 51; refine (Htk.out 1).mono ?_; rintro e w1 ⟨at', ct, rfl, hv, e1⟩; subst e1; have Hv := hide hv; clear hv))
 go_wp2
 go_region_held3 (fun w' => w'.cell? ⟨p.Pb, 0, none⟩ = some (.pointer (some ⟨p.g.X, 0, none⟩)) ∧ w'.cell? ⟨w.heap.size, 2, none⟩ = some (.int .i64 A) ∧ w'.cell? ⟨w.heap.size, 3, none⟩ = some (.int .i64 bv) ∧ w'.cell? ⟨w.heap.size, 4, none⟩ = some (.int .i64 cv)) (go_keep)
   (first | (go_at_call 55; refine (Hxt.out _).mono ?_; rintro e w2 ⟨r1, r2, B2, rfl, hout, hb2⟩; have Hout := hide hout; have Hb2 := hide hb2; obtain ⟨z0, z1, z2, z3, z4, z5⟩ := op_cells ((Hb2.out.block _ (lt_blk HG.out.box)).trans HG.out.box); obtain ⟨t0, t1⟩ := pair_cells ((Hb2.out.block _ (lt_blk HG.out.pair)).trans HG.out.pair); have s0 := (Hb2.out.cell (p := ⟨p.Y, 0, none⟩) hYl).trans hY0; have s2 := (Hb2.out.cell (p := ⟨p.d, 2, none⟩) hdl).trans hd2; clear hb2 hout))
 go_wp2
 go_quiet (fail)
 have HbW : Hid (Below w0.heap.size w0 (w2.drewN nq)) := below_drewN Hb2.out nq
 have HoW : Hid (KOut w0.heap.size B2 (w2.drewN nq) r1 r2 p.c.width f1 f2) := Hout.out.below (bdrew _ _)
 have t1' : (w2.drewN nq).cell? ⟨p.Pb, 1, none⟩ = some (.pointer (some ⟨p.Y, 0, none⟩)) := t1
 have s0' : (w2.drewN nq).cell? ⟨p.Y, 0, none⟩ = some (.pointer (some ⟨p.d, 0, none⟩)) := s0
 clear z0 z1 z2 z3 z4 z5 t0 t1 s0 s2
 generalize w2.drewN nq = W at HbW HoW t1' s0'
 go_wp2_with (first
   | (go_at_call 54; refine (Htr.out W _ HbW.out Hv.out).mono ?_; rintro e w3 ⟨s, bK, bV, gk, gv, ck, cv', xk, xv, rfl, hb3, k0, k1, k2, k3, k4, k5, hxk, hxv⟩; have Hxk := hide hxk; have Hxv := hide hxv; have Hb3 : Hid (Below w0.heap.size w0 w3) := HbW.out.trans (hb3.mono HbW.out.size); have Ho3 := hide (HoW.out.below hb3); obtain ⟨m0, m1, m2, m3, m4, m5⟩ := op_cells ((Hb3.out.block _ (lt_blk HG.out.box)).trans HG.out.box); clear hb3 hxk hxv))
 go_quiet (fail)
 have Hb4 : Hid (Below w0.heap.size w0 (w3.drewN nq)) := below_drewN Hb3.out nq
 have Ho4 : Hid (KOut w0.heap.size B2 (w3.drewN nq) r1 r2 p.c.width f1 f2) := Ho3.out.below (bdrew _ _)
 have Hxk4 : Hid (IntsT (w3.drewN nq) xk p.c.width f1) := Hxk.out.drewN nq
 have Hxv4 : Hid (IntsT (w3.drewN nq) xv p.c.width f2) := Hxv.out.drewN nq
 have j1 : (w3.drewN nq).cell? ⟨s, 1, none⟩ = some (.slice (some ⟨bV, 0, none⟩) p.c.layers p.c.layers) := k1
 have j3 : (w3.drewN nq).cell? ⟨bV, bv, none⟩ = some (.slice (some ⟨gv, 0, none⟩) T.length cv') := k3
 have j5 : (w3.drewN nq).cell? ⟨gv, cv, none⟩ = some xv := k5
 have i3 : (w3.drewN nq).cell? ⟨w.heap.size, 3, none⟩ = some (.int .i64 bv) := m3
 have i4 : (w3.drewN nq).cell? ⟨w.heap.size, 4, none⟩ = some (.int .i64 cv) := m4
 clear m0 m1 m2 m3 m4 m5 k0 k1 k2 k3 k4 k5
 generalize w3.drewN nq = W4 at Hb4 Ho4 Hxk4 Hxv4 j1 j3 j5 i3 i4
 clear nq
 go_wp2
 go_quiet (fail)
 have Hb5 : Hid (Below w0.heap.size w0 (W4.drewN nq)) := below_drewN Hb4.out nq
 have Ho5 : Hid (KOut w0.heap.size B2 (W4.drewN nq) r1 r2 p.c.width f1 f2) := Ho4.out.below (bdrew _ _)
 have Hxk5 : Hid (IntsT (W4.drewN nq) xk p.c.width f1) := Hxk4.out.drewN nq
 have Hxv5 : Hid (IntsT (W4.drewN nq) xv p.c.width f2) := Hxv4.out.drewN nq
 clear j1 j3 j5 i3 i4
 generalize W4.drewN nq = W5 at Hb5 Ho5 Hxk5 Hxv5
 clear nq
 go_wp2_with (first
   | (go_at_call 16; refine (Hsm.out W5 r1 xk f1 (IntsT.of_owns Ho5.out.row1) Hxk5.out).mono ?_; rintro e w6 ⟨rfl, q6, e6⟩; subst e6; clear Hsm)
   | (go_at_call 16; refine (Hsm2.out (W5.drewN q6) r2 xv f2 ((IntsT.of_owns Ho5.out.row2).drewN q6) (Hxv5.out.drewN q6)).mono ?_; rintro e w7 ⟨rfl, q7, e7⟩; subst e7; have Hb7 : Hid (Below w0.heap.size w0 ((W5.drewN q6).drewN q7)) := below_drewN (below_drewN Hb5.out q6) q7; have Ho7 : Hid (KOut w0.heap.size B2 ((W5.drewN q6).drewN q7) r1 r2 p.c.width f1 f2) := (Ho5.out.below (bdrew _ _)).below (bdrew _ _); generalize (W5.drewN q6).drewN q7 = W7 at Hb7 Ho7)
   | (go_at_call 50; refine (Hkp1.out W7 r1 r2 B2 Hb7.out Ho7.out).mono ?_; rintro e w8 ⟨rfl, vl8, h8⟩; have H8 := hide h8; clear h8 Hkp1)
   | (go_at_call 50; refine (Hkp2.out W7 w8 r1 r2 B2 vl8 Hb7.out Ho7.out H8.out).mono ?_; rintro e w9 ⟨rfl, hfin⟩; have Hfin := hide hfin; clear hfin)
   | (go_at_call 25; refine Calls_use (num_any _ _) ?_))
 go_ret
 exact ⟨rfl, Hfin.out⟩
end Go.Proofs.YtlmflighkkgikaaGreat
