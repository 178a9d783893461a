import Derived.Test.YtaidjhlijadmiaaP41

/-
  The statements' asks: Tokens, Logits, Kept on both sides.
-/
namespace Go.Proofs.Ytaidjhlijadmiaa
open Go.RowKit
attribute [local go_sem ↓] Go.wp_at_zero Go.wp_at_succ

/-- What asks has done. -/
def Asked (w : World) (B N : Nat) (vl : Value) (w' : World) : Prop :=
  ∃ N' vl', N' ≤ N + 2 ∧ BookI w' B N' vl' ∧ (∀ k, vl'.ownBlock = some k → vl.ownBlock = some k ∨ w.heap.size ≤ k) ∧ Only (fun k => k = B ∨ vl.ownBlock = some k) w w'

theorem BookI.own {w : World} {B N : Nat} {vl : Value} (h : BookI w B N vl) {k : Nat} (hk : vl.ownBlock = some k) : ∃ cur fr, w.heap[k]? = some (.cells cur 62 fr) := by
  obtain ⟨_, es, ⟨_, ⟨e1, _⟩ | ⟨g', cap, cur, e1, _, hh, _⟩⟩, _⟩ := h
  · rw [e1] at hk; cases hk
  · rw [e1] at hk; injection hk with hk; subst hk; exact ⟨_, _, hh⟩

theorem BookI.okOld {w : World} {B N : Nat} {vl : Value} (h : BookI w B N vl) : BookOk (fun b => b < w.heap.size) w N vl := fun g i e hg hi hc => by
  obtain ⟨_, es, hrow, hes⟩ := h
  have q := owns_cell' hrow hg (j := i) (u := es i) (by simp [hi])
  rw [q] at hc
  injection hc with hc
  subst hc
  exact (hes i hi).okOld

theorem BookOk.keep {ok : Nat → Prop} {w w' : World} {B N : Nat} {vl : Value} (h : BookOk ok w N vl) (hb : BookI w B N vl) (h1 : ∀ g, vl.ownBlock = some g → w'.heap[g]? = w.heap[g]?) (h2 : KeepT 36 w w') : BookOk ok w' N vl := fun g i e hg hi hc => by
  rw [World.cell?_of_block (w := w) (w' := w') (a := ⟨g, i, none⟩) (h1 g hg)] at hc
  obtain ⟨_, es, hrow, hes⟩ := hb
  have q := owns_cell' hrow hg (j := i) (u := es i) (by simp [hi])
  have hc' := hc
  rw [q] at hc'
  injection hc' with hc'
  subst hc'
  exact (h g i _ hg hi hc).keep (hes i hi) h2

theorem BookOk.mono {ok ok' : Nat → Prop} {w : World} {N : Nat} {vl : Value} (h : BookOk ok w N vl) (hm : ∀ b, ok b → ok' b) : BookOk ok' w N vl := fun g i e hg hi hc b cur fr he hh k u hk hu => (h g i e hg hi hc b cur fr he hh k u hk hu).mono hm

/-- One list that came out since w. -/
theorem keep_one (B N n : Nat) (r vl : Value) (f : Nat → Int) (w w1 : World) (h : BookI w B N vl) (hb : Below w.heap.size w w1) (hr : w1.ownsRow w.heap.size 3 1 r n ((List.range n).map fun j => .int .i64 (f j))) (hN : N ≤ 4999999999990) (hn : n ≤ 1000000) :
    Calls Try.prog 49 #[.pointer (some ⟨B, 0, none⟩), r] w1 fun e w2 => e = .returned (.tuple #[]) ∧ ∃ vl', BookI w2 B (N + 1) vl' ∧ (∀ k, vl'.ownBlock = some k → vl.ownBlock = some k ∨ w.heap.size ≤ k) ∧ Only (fun k => k = B ∨ vl.ownBlock = some k) w w2 ∧
      Only (fun k => k = B ∨ vl.ownBlock = some k ∨ r.ownBlock = some k) w1 w2 ∧ BookOk (fun b => b < w.heap.size ∨ r.ownBlock = some b ∨ w1.heap.size ≤ b) w2 (N + 1) vl' := by
  have hge : ∀ k, r.ownBlock = some k → w.heap.size ≤ k := fun k hk => (hr.lt k hk).1
  have h1 : BookI w1 B N vl := h.keep (KeepT.of_below hb) (KeepT.of_below hb) (KeepT.of_below hb) (KeepT.of_below hb)
  have ho1 : BookOk (fun b => b < w.heap.size) w1 N vl := h.okOld.keep h (fun g hg => by obtain ⟨_, _, q⟩ := h.own hg; exact hb.block _ (lt_blk q)) (KeepT.of_below hb)
  refine (keep_any B N n r vl f w1 h1 (ho1.mono (fun b hb' e => by have := hge b e; omega)) (owns_base hr (Nat.zero_le _)) (by omega) hn).mono ?_
  rintro e w2 ⟨rfl, hO, vl', q1, q2, q3⟩
  have hs := hb.size
  refine ⟨rfl, vl', q1, fun k hk => (q2 k hk).imp (fun h => h) (fun h => by omega), ?_, hO, q3 _ (ho1.mono (fun b hb => .inl hb)) (fun b hb => ?_)⟩
  · refine (Only.of_below hb _).trans hO (fun k hlt hk => ?_)
    rcases hk with hk | hk | hk
    · exact .inl hk
    · exact .inr hk
    · have := hge k hk; omega
  · rcases hb with hb | hb
    · exact .inr (.inl hb)
    · exact .inr (.inr hb)

/-- Two of them, one behind the other. -/
theorem keep_two (B N n : Nat) (r1 r2 vl vl' : Value) (f : Nat → Int) (w w1 w2 : World) (B2 : Nat) (h : BookI w B N vl) (_hb : Below w.heap.size w w1) (hB2 : w.heap.size ≤ B2) (hr1 : ∀ b, r1.ownBlock = some b → b < B2)
    (hr2 : w1.ownsRow B2 3 1 r2 n ((List.range n).map fun j => .int .i64 (f j))) (hN : N ≤ 4999999999990) (hn : n ≤ 1000000)
    (q1 : BookI w2 B (N + 1) vl') (q2 : ∀ k, vl'.ownBlock = some k → vl.ownBlock = some k ∨ w.heap.size ≤ k) (q3 : Only (fun k => k = B ∨ vl.ownBlock = some k) w w2) (q4 : Only (fun k => k = B ∨ vl.ownBlock = some k ∨ r1.ownBlock = some k) w1 w2)
    (q5 : BookOk (fun b => b < w.heap.size ∨ r1.ownBlock = some b ∨ w1.heap.size ≤ b) w2 (N + 1) vl') :
    Calls Try.prog 49 #[.pointer (some ⟨B, 0, none⟩), r2] w2 fun e w3 => e = .returned (.tuple #[]) ∧ Asked w B N vl w3 := by
  have hge : ∀ k, r2.ownBlock = some k → B2 ≤ k ∧ k < w1.heap.size := fun k hk => hr2.lt k hk
  have hty : ∀ k, r2.ownBlock = some k → ∃ cur fr, w1.heap[k]? = some (.cells cur 3 fr) := fun k hk => by
    obtain ⟨_, ⟨e1, _⟩ | ⟨g', cap, cur, e1, _, hh, _⟩⟩ := hr2
    · rw [e1] at hk; cases hk
    · rw [e1] at hk; injection hk with hk; subst hk; exact ⟨_, _, hh⟩
  have hr2' : w2.ownsRow 0 3 1 r2 n ((List.range n).map fun j => .int .i64 (f j)) := owns_base (owns_only hr2 q4 (fun b hb' hh => by
    obtain ⟨cur, fr, q⟩ := hty b hb'
    have := hge b hb'
    rcases hh with rfl | hh | hh
    · have := lt_blk h.1; omega
    · obtain ⟨_, _, q'⟩ := h.own hh; have := lt_blk q'; omega
    · have := hr1 b hh; omega)) (Nat.zero_le _)
  refine (keep_any B (N + 1) n r2 vl' f w2 q1 (q5.mono (fun b hb' e => by
    have := hge b e
    rcases hb' with hb' | hb' | hb'
    · omega
    · have := hr1 b hb'; omega
    · omega)) hr2' (by omega) hn).mono ?_
  rintro e w3 ⟨rfl, hO, vl2, u1, u2, _⟩
  have hs := q3.size
  refine ⟨rfl, N + 2, vl2, Nat.le_refl _, u1, fun k hk => ?_, q3.trans hO (fun k hlt hk => ?_)⟩
  · rcases u2 k hk with r | r
    · exact q2 k r
    · exact .inr (by omega)
  · rcases hk with hk | hk | hk
    · exact .inl hk
    · rcases q2 k hk with r | r
      · exact .inr r
      · omega
    · have := hge k hk; omega

/-- The ground that all of asks stands on: w0 is w, and the question in a block of its own. -/
structure AskG (B0 : Nat) (p : PD) (w w0 : World) (H K A Bv C : Int) (vT : Value) : Prop where
  is : w0 = w.alloc (.cells #[.int .i64 H, .int .i64 K, .int .i64 A, .int .i64 Bv, .int .i64 C, vT] 38)
  below : Below w.heap.size w w0
  box : w0.heap[w.heap.size]? = some (.cells #[.int .i64 H, .int .i64 K, .int .i64 A, .int .i64 Bv, .int .i64 C, vT] 38 (0, 0))
  pair : w0.heap[p.Pb]? = some (.cells #[.pointer (some ⟨p.g.X, 0, none⟩), .pointer (some ⟨p.Y, 0, none⟩)] 46 (0, 0))
  ref : RefI w0 p.Y p.d p.c p.L p.tl p.nt p.vL
  read : ∃ sv blk, ReadI (fun _ => True) w0 p.g p.c p.L sv blk

theorem AskG.mk' {B0 : Nat} {p : PD} {w : World} (hp : PairI B0 w p) (H K A Bv C : Int) (vT : Value) : ∃ w0, AskG B0 p w w0 H K A Bv C vT := by
  have hb : Below w.heap.size w (w.alloc (.cells #[.int .i64 H, .int .i64 K, .int .i64 A, .int .i64 Bv, .int .i64 C, vT] 38)) := (Below.refl _ _).alloc (Nat.le_refl _) _
  exact ⟨_, rfl, hb, alloc_new _ _, (hb.block _ (lt_blk hp.obj)).trans hp.obj, hp.ref.below hb, (hp.held.below hb).read⟩

theorem ReadI.drewN {ok : Nat → Prop} {w : World} {g : Parts} {c : Cfg} {L : List (Int × List Nat)} {sv : Nat → Value} {blk : Nat → Nat → Nat} (h : ReadI ok w g c L sv blk) (q : Nat) : ReadI ok (w.drewN q) g c L sv blk :=
  ⟨h.obj, h.model.below (below_drewN w q), h.seqs.keep rfl, fun i hi => (h.seq i hi).below (below_drewN w q), h.len, h.toks⟩

theorem RefI.drewN {w : World} {Y d : Nat} {c : Cfg} {L : List (Int × List Nat)} {tl : Nat → Nat} {nt : Nat} {vL : Value} (h : RefI w Y d c L tl nt vL) (q : Nat) : RefI (w.drewN q) Y d c L tl nt vL := h.below (below_drewN w q)

theorem reftok_some {w : World} {Y d : Nat} {c : Cfg} {L : List (Int × List Nat)} {tl : Nat → Nat} {nt : Nat} {vL : Value} (h : RefI w Y d c L tl nt vL) {A : Int} {k : Nat} (hk : k < L.length) (he : idAt L k = A) (hf : ∀ j, j < k → idAt L j ≠ A) (q : Nat) :
    Calls Try.prog 50 #[.pointer (some ⟨Y, 0, none⟩), .int .i64 A] (w.drewN q) fun e w' => ∃ a cp, e = .returned (.tuple #[.slice a (toksAt L k).length cp, .bool true]) ∧ TokT w (.slice a (toksAt L k).length cp) (toksAt L k) ∧ w' = w.drewN q := by
  refine (reftokens_any Y d A c L tl nt vL (w.drewN q) (h.drewN q)).mono ?_
  rintro e w' ⟨⟨_, hno⟩ | ⟨k', v, rfl, hk', he', hf', hT⟩, rfl⟩
  · exact absurd he (hno k hk)
  · have : k' = k := by
      rcases Nat.lt_trichotomy k' k with q | q | q
      · exact absurd he' (hf k' q)
      · exact q
      · exact absurd he (hf' k q)
    subst this
    obtain ⟨a, cp, rfl, _⟩ := hT.slice
    exact ⟨a, cp, rfl, hT, rfl⟩

theorem reftok_none {w : World} {Y d : Nat} {c : Cfg} {L : List (Int × List Nat)} {tl : Nat → Nat} {nt : Nat} {vL : Value} (h : RefI w Y d c L tl nt vL) {A : Int} (hno : ∀ i, i < L.length → idAt L i ≠ A) (q : Nat) :
    Calls Try.prog 50 #[.pointer (some ⟨Y, 0, none⟩), .int .i64 A] (w.drewN q) fun e w' => e = .returned (.tuple #[.slice none 0 0, .bool false]) ∧ w' = w.drewN q := by
  refine (reftokens_any Y d A c L tl nt vL (w.drewN q) (h.drewN q)).mono ?_
  rintro e w' ⟨⟨rfl, _⟩ | ⟨k', v, rfl, hk', he', hf', hT⟩, rfl⟩
  · exact ⟨rfl, rfl⟩
  · exact absurd he' (hno k' hk')

theorem sameI_refl (n : Nat) (f : Nat → Int) : sameI n n f f = true := by
  have h : ∀ m, sameTo f f m = true := fun m => by
    induction m with
    | zero => rfl
    | succ m ih => simp [sameTo, ih]
  unfold sameI
  simp [h]

set_option maxRecDepth 100000 in
set_option maxHeartbeats 4000000 in
theorem asks_tok_some (B0 : Nat) (p : PD) (w : World) (hp : PairI B0 w p) (B N : Nat) (vl : Value) (hbk : BookI w B N vl) (hN : N ≤ 4999999999990) (H A Bv C : Int) (vT : Value) (hA : -9223372036854775808 ≤ A ∧ A ≤ 9223372036854775807)
    (k : Nat) (hk : k < p.L.length) (he : idAt p.L k = A) (hf : ∀ j, j < k → idAt p.L j ≠ A) :
    Calls Try.prog 21 #[.pointer (some ⟨p.Pb, 0, none⟩), .agg #[.int .i64 H, .int .i64 2, .int .i64 A, .int .i64 Bv, .int .i64 C, vT], .pointer (some ⟨B, 0, none⟩)] w fun e w' => e = .returned (.bool true) ∧ Asked w B N vl w' := by
  obtain ⟨w0, hG⟩ := AskG.mk' hp H 2 A Bv C vT
  obtain ⟨sv, blk, hread⟩ := hG.read
  have hlen := (hp.ref.len k hk).2
  have htk := reftok_some hG.ref hk he hf
  have hxt := fun q => htokens_some (fun _ => True) p.g p.c hp.cok p.L sv blk A k (w0.drewN q) (hread.drewN q) hA hk he hf
  have hsm : ∀ w2 r v, w2.ownsRow w0.heap.size 3 1 r (toksAt p.L k).length ((List.range (toksAt p.L k).length).map fun j => .int .i64 (tkI (toksAt p.L k) j)) → Below w0.heap.size w0 w2 → TokT w0 v (toksAt p.L k) → Calls Try.prog 15 #[r, v] w2 fun e w' => e = .returned (.bool true) ∧ ∃ q, w' = w2.drewN q := fun w2 r v h1 h2 h3 => by
    refine (lawsame_any _ _ r v _ _ w2 (IntsT.of_owns h1).ints (h3.keep (KeepT.of_below h2)).ints).mono ?_
    rintro e w' ⟨rfl, hq⟩
    rw [sameI_refl]
    exact ⟨rfl, hq⟩
  have hkp : ∀ w2 q r, w2.ownsRow w0.heap.size 3 1 r (toksAt p.L k).length ((List.range (toksAt p.L k).length).map fun j => .int .i64 (tkI (toksAt p.L k) j)) → Below w0.heap.size w0 w2 → Calls Try.prog 49 #[.pointer (some ⟨B, 0, none⟩), r] (w2.drewN q) fun e w3 => e = .returned (.tuple #[]) ∧ Asked w B N vl w3 := fun w2 q r h1 h2 => by
    have hb2 : Below w.heap.size w (w2.drewN q) := hG.below.trans ((h2.mono hG.below.size).trans ((below_drewN w2 q).mono (Nat.le_trans hG.below.size h2.size)))
    refine (keep_one B N _ r vl _ w (w2.drewN q) hbk hb2 (owns_base (show (w2.drewN q).ownsRow _ _ _ _ _ _ from h1) hG.below.size) hN (by omega)).mono ?_
    rintro e w3 ⟨rfl, vl', q1, q2, q3, _⟩
    exact ⟨rfl, N + 1, vl', by omega, q1, q2, q3⟩
  have HG := hide hG
  have Htk := hide htk
  have Hxt := hide hxt
  have Hsm := hide hsm
  have Hkp := hide hkp
  obtain ⟨y0, y1, y2, y3, y4, y5⟩ := op_cells hG.box
  obtain ⟨u0, u1⟩ := pair_cells hG.pair
  generalize toksAt p.L k = T at *
  clear hG htk hxt hsm hkp hread hp hbk he hf
  go_enter Try.func21, Try.ntmps21
  go_wp2
  rw [← HG.out.is]
  go_region_held3 (fun w' => w'.cell? ⟨p.Pb, 1, none⟩ = some (.pointer (some ⟨p.Y, 0, none⟩)) ∧ w'.cell? ⟨w.heap.size, 2, none⟩ = some (.int .i64 A)) (go_keep)
    (first | (go_at_call 50; refine (Htk.out 1).mono ?_; rintro e w1 ⟨at', ct, rfl, hv, e1⟩; subst e1; have Hv := hide hv; clear hv))
  go_wp2
  go_region_held3 (fun w' => w'.cell? ⟨p.Pb, 0, none⟩ = some (.pointer (some ⟨p.g.X, 0, none⟩)) ∧ w'.cell? ⟨w.heap.size, 2, none⟩ = some (.int .i64 A)) (go_keep)
    (first | (go_at_call 14; refine (Hxt.out _).mono ?_; rintro e w2 ⟨r, rfl, hr, hb2⟩; have Hr := hide hr; have Hb2 : Hid (Below w0.heap.size w0 w2) := ⟨hb2.os, hb2.tape, hb2.output, hb2.size, hb2.block⟩; obtain ⟨z0, z1, z2, z3, z4, z5⟩ := op_cells ((Hb2.out.block _ (lt_blk HG.out.box)).trans HG.out.box); obtain ⟨t0, t1⟩ := pair_cells ((Hb2.out.block _ (lt_blk HG.out.pair)).trans HG.out.pair); clear hr hb2))
  go_wp2_with (first
    | (go_at_call 15; refine (Hsm.out w2 r _ Hr.out Hb2.out Hv.out).mono ?_; rintro e w3 ⟨rfl, q3, e3⟩; subst e3)
    | (go_at_call 49; refine (Hkp.out w2 _ r Hr.out Hb2.out).mono ?_; rintro e w4 ⟨rfl, hfin⟩; have Hfin := hide hfin; clear hfin)
    | (go_at_call 24; refine Calls_use (num_any _ _) ?_))
  go_ret
  exact ⟨rfl, Hfin.out⟩

end Go.Proofs.Ytaidjhlijadmiaa
