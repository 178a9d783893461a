import Derived.Test.YtlmflighkkgikaaP35

namespace Go.Proofs.Ytlmflighkkgikaa
open Go.RowKit
attribute [local go_sem ↓] Go.wp_at_zero Go.wp_at_succ
theorem HoardI.model {F ok : Nat → Prop} {w : World} {g : Parts} {c : Cfg} {L : List (Int × Key)} {il : List (List Nat)} (h : HoardI F ok w g c L il) : ModelT w g.M c g.vE g.vH g.bL g.oL g.cL := by
 obtain ⟨B, free, hS, _⟩ := h.ex
 obtain ⟨vI, vF, N, Mm, hl⟩ := hS.low
 exact hl.model
set_option maxRecDepth 100000 in
set_option maxHeartbeats 2000000 in
theorem behind_any (ok : Nat → Prop) (g : Parts) (c : Cfg) (hc : c.ok) (B : Key → Option Nat) (U : Key → Nat) (k : Key) (b : Nat) (w : World) (hs : SeqAt ok w c B U k) (hb : B k = some b) (hne : k.1 ≠ []) (htok : ∀ t ∈ k.1, t < c.vocab) (hM : ModelT w g.M c g.vE g.vH g.bL g.oL g.cL) (hX : w.cell? ⟨g.X, 7, none⟩ = some (.pointer (some ⟨g.M, 0, none⟩))) (hXl : g.X < w.heap.size) :
   Calls Try.prog 35 #[.pointer (some ⟨g.X, 0, none⟩), .pointer (some ⟨b, 0, none⟩)] w fun e w' => ∃ r, e = .returned r ∧ IntsT w' r c.width (xIn c (tkN k.1) (k.1.length - 1) c.layers) ∧ Below w.heap.size w w' := by
 have hlen := hs.len
 have h1 : 0 < k.1.length := List.length_pos_iff.2 hne
 have ht := tokens_any ok c hc B U k w hs
 rw [hb] at ht
 unfold blkV at ht
 have hcs := fun W (hW : Below w.heap.size w W) => cells_any ok c hc B U k W (hs.below hW)
 rw [hb] at hcs
 unfold blkV at hcs
 have Ht := hide ht
 have Hcs := hide hcs
 obtain ⟨p, hp⟩ : ∃ p, k.1.length = p + 1 := ⟨k.1.length - 1, by omega⟩
 have htk : tkN k.1 p < c.vocab := htok _ (by unfold tkN; rw [List.getD_eq_getElem?_getD]; simp [show p < k.1.length by omega])
 rw [hp] at Ht Hcs hlen
 have e0 : k.1.length - 1 = p := by omega
 rw [e0]
 have HM := hide hM
 clear ht hcs hs hb hne htok h1 hp e0 hM
 go_enter Try.func35, Try.ntmps35
 go_wp2_with fail
 refine Ht.out.mono ?_
 rintro e w1 ⟨r1, rfl, hr1, hb1⟩
 obtain ⟨a1, c1, e1⟩ := owns_form hr1
 subst e1
 obtain ⟨b1, ea1⟩ : ∃ b1, a1 = some ⟨b1, 0, none⟩ := by
   obtain ⟨_, ⟨_, q⟩ | ⟨g', cap', cur, q1, _⟩⟩ := hr1
   · omega
   · injection q1 with q1 _ _; exact ⟨g', q1⟩
 subst ea1
 have t1 := owns_at hr1 rfl (j := p) (u := .int .i64 (tkI k.1 p)) (by simp)
 have hb1l := (hr1.lt b1 rfl).2
 unfold tkI at t1
 clear hr1 Ht
 go_wp2_with fail
 refine (Hcs.out w1 hb1).mono ?_
 rintro e w2 ⟨r2, rfl, hC2, hb2⟩
 obtain ⟨a2, c2, e2⟩ := hC2.form
 subst e2
 have hB2 := hb1.trans (hb2.mono hb1.size)
 obtain ⟨gc, cv, rfl, hgc, ckc, hcell⟩ := hC2.cell p (by omega)
 obtain ⟨bc, ccap, _, _, ecv, _⟩ := id hcell
 subst ecv
 obtain ⟨hca1, hca2⟩ := hC2.cap
 unfold maxLen at hca2
 have hpast := hC2.past (p := p) (by omega)
 have t2 := (hb2.cell (p := ⟨b1, p, none⟩) hb1l).trans t1
 have x7 := (hB2.cell (p := ⟨g.X, 7, none⟩) hXl).trans hX
 have hM2 := HM.out.keep (KeepT.of_below hB2) (KeepT.of_below hB2) (KeepT.of_below hB2) (KeepT.of_below hB2)
 have hdr : Below w2.heap.size w2 w2.drew := (Below.refl _ _).drew
 have hpass := pass_kept c hc g.M (tkN k.1 p) p (.slice (some ⟨gc, 0, none⟩) p c2) g.vE g.vH (.slice (some ⟨bc, 0, none⟩) c.layers ccap) g.bL g.oL g.cL (memOf c (tkN k.1) p).1 (memOf c (tkN k.1) p).2 ok w2.drew (hM2.keep (KeepT.of_below hdr) (KeepT.of_below hdr) (KeepT.of_below hdr) (KeepT.of_below hdr)).model (hpast.below hdr) htk (by omega) (memOf_bd c (tkN k.1) p).1 (memOf_bd c (tkN k.1) p).2 (by exact hcell.below hdr)
 have Hpass := hide hpass
 have jp1 : (p : Int) < (p : Int) + 1 := by omega
 have jp2 : (p : Int) ≤ (c2 : Int) := by omega
 have jp0 : (0 : Int) ≤ (p : Int) := by omega
 have jw : IntKind.i64.wrap ((p : Int) + 1 - 1) = (p : Int) := by rw [wrap_in (by omega) (by omega)]; omega
 have hgl := hB2.size
 have hXl2 : g.X < w2.heap.size := by omega
 have hbl2 : b1 < w2.heap.size := by have := hb2.size; omega
 clear hpass hcell hpast hM2 Hcs hC2
 go_wp2_with fail
 go_region_held3 (fun w' => w'.cell? ⟨g.X, 7, none⟩ = some (.pointer (some ⟨g.M, 0, none⟩)) ∧ w'.cell? ⟨b1, p, none⟩ = some (.int .i64 (tkN k.1 p)) ∧ w'.cell? ⟨gc, p, none⟩ = some (.slice (some ⟨bc, 0, none⟩) c.layers ccap))
   (first | (exact ⟨z7, zt, zc⟩) | go_keep)
   (first | (go_at_call 56; refine Hpass.out.mono ?_; rintro e w3 ⟨r3, cell3, rfl, hr3, hb3⟩; replace hb3 : Below w2.heap.size w2 w3 := hdr.trans hb3; have z7 := (hb3.cell (p := ⟨g.X, 7, none⟩) hXl2).trans x7; have zt := (hb3.cell (p := ⟨b1, p, none⟩) hbl2).trans t2; have zc := (hb3.cell (p := ⟨gc, p, none⟩) hgc).trans ckc))
 have Hr3 := hide hr3
 clear hr3
 go_wp2
 go_ret
 exact ⟨r3, rfl, Hr3.out, hB2.trans (hb3.mono hB2.size)⟩
end Go.Proofs.Ytlmflighkkgikaa
