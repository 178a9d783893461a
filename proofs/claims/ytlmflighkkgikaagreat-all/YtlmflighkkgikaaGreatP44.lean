import Derived.Test.YtlmflighkkgikaaGreatP43

namespace Go.Proofs.YtlmflighkkgikaaGreat
open Go.RowKit
attribute [local go_sem ↓] Go.wp_at_zero Go.wp_at_succ
theorem bdrew (w : World) (q : Nat) : Below w.heap.size w (w.drewN q) := below_drewN (Below.refl _ _) q
def Asked (w : World) (B N : Nat) (vl : Value) (w' : World) : Prop :=
 ∃ N' vl', N' ≤ N + 2 ∧ BookI w' B N' vl' ∧ (∀ k, vl'.ownBlock = some k → vl.ownBlock = some k ∨ w.heap.size ≤ k) ∧ Only (fun k => k = B ∨ vl.ownBlock = some k) w w' ∧ ∀ b, BookE w' N' vl' b → BookE w N vl b ∨ w.heap.size ≤ b
theorem owns_only {F : Nat → Prop} {w w' : World} {base : Nat} {e : TypeId} {size : Nat} {v : Value} {n : Nat} {xs : List Value} (h : w.ownsRow base e size v n xs) (ho : Only F w w') (hF : ∀ b, v.ownBlock = some b → ¬ F b) : w'.ownsRow base e size v n xs := by
 obtain ⟨h1, h2 | ⟨g, cap, cur, e', hg, hh, rest⟩⟩ := h
 · exact ⟨h1, .inl h2⟩
 · exact ⟨h1, .inr ⟨g, cap, cur, e', hg, (ho.block g (lt_blk hh) (hF g (by rw [e']; rfl))).trans hh, rest⟩⟩
theorem BookE.below {w w1 : World} {N : Nat} {vl : Value} (hb : Below w.heap.size w w1) (hlt : ∀ g, vl.ownBlock = some g → g < w.heap.size) {b : Nat} (h : BookE w1 N vl b) : BookE w N vl b := by
 obtain ⟨g, i, h1, h2, h3⟩ := h
 exact ⟨g, i, h1, h2, (hb.cell (p := ⟨g, i, none⟩) (hlt g h1)).symm.trans h3⟩
theorem assoc_mem {L : List (Int × Key)} {A : Int} {k0 : Key} (h : assoc L A = some k0) : (A, k0) ∈ L := by
 obtain ⟨L1, L2, rfl, _⟩ := assoc_split h
 simp
theorem assoc_first {L : List (Int × Key)} {A : Int} {k : Nat} (hk : k < L.length) (he : idAt L k = A) (hf : ∀ j, j < k → idAt L j ≠ A) : assoc L A = some (toksAt L k, tailAt L k) := by
 have hm := at_mem hk
 cases ha : assoc L A with
 | none => exact absurd he (idAt_ne ha k hk)
 | some k0 =>
   obtain ⟨L1, L2, rfl, hno⟩ := assoc_split ha
   have hmid := seq_mid L1 L2 (A, k0)
   have : k = L1.length := by
     rcases Nat.lt_trichotomy k L1.length with q | q | q
     · refine absurd he ?_
       have e1 : idAt (L1 ++ (A, k0) :: L2) k = idAt L1 k := by
         unfold idAt
         rw [List.getD_eq_getElem?_getD, List.getD_eq_getElem?_getD, List.getElem?_append_left q]
       rw [e1]
       exact idAt_ne hno k q
     · exact q
     · exact absurd hmid.1 (hf L1.length q)
   subst this
   rw [hmid.2.1, hmid.2.2]
theorem BookI.own {w : World} {B N : Nat} {vl : Value} (h : BookI w B N vl) {k : Nat} (hk : vl.ownBlock = some k) : ∃ cur fr, w.heap[k]? = some (.cells cur 62 fr) := by
 obtain ⟨_, es, ⟨_, ⟨e1, _⟩ | ⟨g', cap, cur, e1, _, hh, _⟩⟩, _⟩ := h
 · rw [e1] at hk; cases hk
 · rw [e1] at hk; injection hk with hk; subst hk; exact ⟨_, _, hh⟩
theorem BookI.okOld {w : World} {B N : Nat} {vl : Value} (h : BookI w B N vl) : BookOk (fun b => b < w.heap.size) w N vl := fun g i e hg hi hc => by
 obtain ⟨_, es, hrow, hes⟩ := h
 have q := owns_cell' hrow hg (j := i) (u := es i) (by simp [hi])
 rw [q] at hc
 injection hc with hc
 subst hc
 exact (hes i hi).okOld
theorem BookOk.keep {ok : Nat → Prop} {w w' : World} {B N : Nat} {vl : Value} (h : BookOk ok w N vl) (hb : BookI w B N vl) (h1 : ∀ g, vl.ownBlock = some g → w'.heap[g]? = w.heap[g]?) (h2 : KeepT 36 w w') : BookOk ok w' N vl := fun g i e hg hi hc => by
 rw [World.cell?_of_block (w := w) (w' := w') (a := ⟨g, i, none⟩) (h1 g hg)] at hc
 obtain ⟨_, es, hrow, hes⟩ := hb
 have q := owns_cell' hrow hg (j := i) (u := es i) (by simp [hi])
 have hc' := hc
 rw [q] at hc'
 injection hc' with hc'
 subst hc'
 exact (h g i _ hg hi hc).keep (hes i hi) h2
theorem BookOk.mono {ok ok' : Nat → Prop} {w : World} {N : Nat} {vl : Value} (h : BookOk ok w N vl) (hm : ∀ b, ok b → ok' b) : BookOk ok' w N vl := fun g i e hg hi hc b cur fr he hh k u hk hu => (h g i e hg hi hc b cur fr he hh k u hk hu).mono hm
theorem keep_one (B N n : Nat) (r vl : Value) (f : Nat → Int) (w w1 : World) (h : BookI w B N vl) (hb : Below w.heap.size w w1) (hr : w1.ownsRow w.heap.size 3 1 r n ((List.range n).map fun j => .int .i64 (f j))) (hN : N ≤ 4999999999990) (hn : n ≤ 1000000) :
   Calls Tryz.prog 50 #[.pointer (some ⟨B, 0, none⟩), r] w1 fun e w2 => e = .returned (.tuple #[]) ∧ ∃ vl', BookI w2 B (N + 1) vl' ∧ (∀ k, vl'.ownBlock = some k → vl.ownBlock = some k ∨ w.heap.size ≤ k) ∧ Only (fun k => k = B ∨ vl.ownBlock = some k) w w2 ∧
     Only (fun k => k = B ∨ vl.ownBlock = some k ∨ r.ownBlock = some k) w1 w2 ∧ BookOk (fun b => b < w.heap.size ∨ r.ownBlock = some b ∨ w1.heap.size ≤ b) w2 (N + 1) vl' ∧ ∀ b, BookE w2 (N + 1) vl' b → BookE w N vl b ∨ w.heap.size ≤ b := by
 have hge : ∀ k, r.ownBlock = some k → w.heap.size ≤ k := fun k hk => (hr.lt k hk).1
 have h1 : BookI w1 B N vl := h.keep (KeepT.of_below hb) (KeepT.of_below hb) (KeepT.of_below hb) (KeepT.of_below hb)
 have ho1 : BookOk (fun b => b < w.heap.size) w1 N vl := h.okOld.keep h (fun g hg => by obtain ⟨_, _, q⟩ := h.own hg; exact hb.block _ (lt_blk q)) (KeepT.of_below hb)
 refine (keep_any B N n r vl f w1 h1 (ho1.mono (fun b hb' e => by have := hge b e; omega)) (owns_base hr (Nat.zero_le _)) (by omega) hn).mono ?_
 rintro e w2 ⟨rfl, hO, vl', q1, q2, q3, q4⟩
 have hs := hb.size
 refine ⟨rfl, vl', q1, fun k hk => (q2 k hk).imp (fun h => h) (fun h => by omega), ?_, hO, q3 _ (ho1.mono (fun b hb => .inl hb)) (fun b hb => ?_), fun b hb' => (q4 b hb').imp (BookE.below hb (fun g hg => by obtain ⟨_, _, q⟩ := h.own hg; exact lt_blk q)) (fun h => by omega)⟩
 · refine (Only.of_below hb _).trans hO (fun k hlt hk => ?_)
   rcases hk with hk | hk | hk
   · exact .inl hk
   · exact .inr hk
   · have := hge k hk; omega
 · rcases hb with hb | hb
   · exact .inr (.inl hb)
   · exact .inr (.inr hb)
theorem keep_two (B N n : Nat) (r1 r2 vl vl' : Value) (f : Nat → Int) (w w1 w2 : World) (B2 : Nat) (h : BookI w B N vl) (_hb : Below w.heap.size w w1) (hB2 : w.heap.size ≤ B2) (hr1 : ∀ b, r1.ownBlock = some b → b < B2)
   (hr2 : w1.ownsRow B2 3 1 r2 n ((List.range n).map fun j => .int .i64 (f j))) (hN : N ≤ 4999999999990) (hn : n ≤ 1000000)
   (q1 : BookI w2 B (N + 1) vl') (q2 : ∀ k, vl'.ownBlock = some k → vl.ownBlock = some k ∨ w.heap.size ≤ k) (q3 : Only (fun k => k = B ∨ vl.ownBlock = some k) w w2) (q4 : Only (fun k => k = B ∨ vl.ownBlock = some k ∨ r1.ownBlock = some k) w1 w2)
   (q5 : BookOk (fun b => b < w.heap.size ∨ r1.ownBlock = some b ∨ w1.heap.size ≤ b) w2 (N + 1) vl') (q6 : ∀ b, BookE w2 (N + 1) vl' b → BookE w N vl b ∨ w.heap.size ≤ b) :
   Calls Tryz.prog 50 #[.pointer (some ⟨B, 0, none⟩), r2] w2 fun e w3 => e = .returned (.tuple #[]) ∧ Asked w B N vl w3 := by
 have hge : ∀ k, r2.ownBlock = some k → B2 ≤ k ∧ k < w1.heap.size := fun k hk => hr2.lt k hk
 have hty : ∀ k, r2.ownBlock = some k → ∃ cur fr, w1.heap[k]? = some (.cells cur 3 fr) := fun k hk => by
   obtain ⟨_, ⟨e1, _⟩ | ⟨g', cap, cur, e1, _, hh, _⟩⟩ := hr2
   · rw [e1] at hk; cases hk
   · rw [e1] at hk; injection hk with hk; subst hk; exact ⟨_, _, hh⟩
 have hr2' : w2.ownsRow 0 3 1 r2 n ((List.range n).map fun j => .int .i64 (f j)) := owns_base (owns_only hr2 q4 (fun b hb' hh => by
   obtain ⟨cur, fr, q⟩ := hty b hb'
   have := hge b hb'
   rcases hh with rfl | hh | hh
   · have := lt_blk h.1; omega
   · obtain ⟨_, _, q'⟩ := h.own hh; have := lt_blk q'; omega
   · have := hr1 b hh; omega)) (Nat.zero_le _)
 refine (keep_any B (N + 1) n r2 vl' f w2 q1 (q5.mono (fun b hb' e => by
   have := hge b e
   rcases hb' with hb' | hb' | hb'
   · omega
   · have := hr1 b hb'; omega
   · omega)) hr2' (by omega) hn).mono ?_
 rintro e w3 ⟨rfl, hO, vl2, u1, u2, _, u4⟩
 have hs := q3.size
 refine ⟨rfl, N + 2, vl2, Nat.le_refl _, u1, fun k hk => ?_, q3.trans hO (fun k hlt hk => ?_), fun b hb => (u4 b hb).elim (q6 b) (fun h => .inr (by omega))⟩
 · rcases u2 k hk with r | r
   · exact q2 k r
   · exact .inr (by omega)
 · rcases hk with hk | hk | hk
   · exact .inl hk
   · rcases q2 k hk with r | r
     · exact .inr r
     · omega
   · have := hge k hk; omega
structure AskG (p : PD) (w w0 : World) (H Kd A Bv C : Int) (vT : Value) : Prop where
 is : w0 = w.alloc (.cells #[.int .i64 H, .int .i64 Kd, .int .i64 A, .int .i64 Bv, .int .i64 C, vT] 38)
 below : Below w.heap.size w w0
 box : w0.heap[w.heap.size]? = some (.cells #[.int .i64 H, .int .i64 Kd, .int .i64 A, .int .i64 Bv, .int .i64 C, vT] 38 (0, 0))
 pair : w0.heap[p.Pb]? = some (.cells #[.pointer (some ⟨p.g.X, 0, none⟩), .pointer (some ⟨p.Y, 0, none⟩)] 46 (0, 0))
 ref : RefI (fun _ => True) w0 p.Y p.d p.c p.L p.il p.nt p.vL p.vI
 held : HoardI p.F (fun _ => True) w0 p.g p.c p.L p.il
theorem AskG.mk' {B0 K : Nat} {p : PD} {w : World} (hp : PairI B0 K w p) (H Kd A Bv C : Int) (vT : Value) : ∃ w0, AskG p w w0 H Kd A Bv C vT := by
 have hb : Below w.heap.size w (w.alloc (.cells #[.int .i64 H, .int .i64 Kd, .int .i64 A, .int .i64 Bv, .int .i64 C, vT] 38)) := (Below.refl _ _).alloc (Nat.le_refl _) _
 exact ⟨_, rfl, hb, alloc_new _ _, (hb.block _ (lt_blk hp.obj)).trans hp.obj, hp.ref.below hb, hp.held.below hb⟩
theorem reftok_some {w : World} {Y d : Nat} {c : Cfg} {L : List (Int × Key)} {il : List (List Nat)} {nt : Nat} {vL vI : Value} (h : RefI (fun _ => True) w Y d c L il nt vL vI) {A : Int} {k0 : Key} (ha : assoc L A = some k0) (q : Nat) :
   Calls Tryz.prog 51 #[.pointer (some ⟨Y, 0, none⟩), .int .i64 A] (w.drewN q) fun e w' => ∃ a cp, e = .returned (.tuple #[.slice a k0.1.length cp, .bool true]) ∧ TokT w (.slice a k0.1.length cp) k0.1 ∧ w' = w.drewN q := by
 refine (reftokens_any Y d A c L _ il nt vL vI (w.drewN q) (h.below (bdrew w q))).mono ?_
 rintro e w' ⟨⟨_, hno⟩ | ⟨k', v, rfl, hk', he', hf', hT⟩, rfl⟩
 · obtain ⟨L1, L2, rfl, _⟩ := assoc_split ha
   exact absurd (seq_mid L1 L2 (A, k0)).1 (hno L1.length (by simp))
 · have e1 := assoc_first hk' he' hf'
   rw [ha] at e1
   injection e1 with e1
   have e2 : k0.1 = toksAt L k' := by rw [e1]
   rw [← e2] at hT
   obtain ⟨a, cp, rfl, _⟩ := hT.slice
   exact ⟨a, cp, rfl, hT, rfl⟩
theorem reftok_none {w : World} {Y d : Nat} {c : Cfg} {L : List (Int × Key)} {il : List (List Nat)} {nt : Nat} {vL vI : Value} (h : RefI (fun _ => True) w Y d c L il nt vL vI) {A : Int} (hno : assoc L A = none) (q : Nat) :
   Calls Tryz.prog 51 #[.pointer (some ⟨Y, 0, none⟩), .int .i64 A] (w.drewN q) fun e w' => e = .returned (.tuple #[.slice none 0 0, .bool false]) ∧ w' = w.drewN q := by
 refine (reftokens_any Y d A c L _ il nt vL vI (w.drewN q) (h.below (bdrew w q))).mono ?_
 rintro e w' ⟨⟨rfl, _⟩ | ⟨k', v, rfl, hk', he', hf', hT⟩, rfl⟩
 · exact ⟨rfl, rfl⟩
 · exact absurd he' (idAt_ne hno k' hk')
theorem sameI_refl (n : Nat) (f : Nat → Int) : sameI n n f f = true := by
 have h : ∀ m, sameTo f f m = true := fun m => by
   induction m with
   | zero => rfl
   | succ m ih => simp [sameTo, ih]
 unfold sameI
 simp [h]
set_option maxRecDepth 100000 in
set_option maxHeartbeats 4000000 in
theorem asks_tok_some (B0 K : Nat) (p : PD) (w : World) (hp : PairI B0 K w p) (B N : Nat) (vl : Value) (hbk : BookI w B N vl) (hN : N ≤ 4999999999990) (H A Bv C : Int) (vT : Value) (hA : -9223372036854775808 ≤ A ∧ A ≤ 9223372036854775807)
   (k0 : Key) (ha : assoc p.L A = some k0) :
   Calls Tryz.prog 22 #[.pointer (some ⟨p.Pb, 0, none⟩), .agg #[.int .i64 H, .int .i64 2, .int .i64 A, .int .i64 Bv, .int .i64 C, vT], .pointer (some ⟨B, 0, none⟩)] w fun e w' => e = .returned (.bool true) ∧ Asked w B N vl w' := by
 obtain ⟨w0, hG⟩ := AskG.mk' hp H 2 A Bv C vT
 have hread := hG.held
 have hlen : k0.1.length ≤ 40 := (hp.ref.len _ (assoc_mem ha)).2
 have htk := reftok_some hG.ref ha
 have hxt := fun q => htokens_some p.F (fun _ => True) p.g p.c hp.cok p.L p.il A k0 (w0.drewN q) (hread.below (bdrew w0 q)) hA ha
 have hsm : ∀ w2 r v, w2.ownsRow w0.heap.size 3 1 r (k0.1).length ((List.range (k0.1).length).map fun j => .int .i64 (tkI (k0.1) j)) → Below w0.heap.size w0 w2 → TokT w0 v (k0.1) → Calls Tryz.prog 16 #[r, v] w2 fun e w' => e = .returned (.bool true) ∧ ∃ q, w' = w2.drewN q := fun w2 r v h1 h2 h3 => by
   refine (lawsame_any _ _ r v _ _ w2 (IntsT.of_owns h1).ints (h3.keep (KeepT.of_below h2)).ints).mono ?_
   rintro e w' ⟨rfl, hq⟩
   rw [sameI_refl]
   exact ⟨rfl, hq⟩
 have hkp : ∀ w2 q r, w2.ownsRow w0.heap.size 3 1 r (k0.1).length ((List.range (k0.1).length).map fun j => .int .i64 (tkI (k0.1) j)) → Below w0.heap.size w0 w2 → Calls Tryz.prog 50 #[.pointer (some ⟨B, 0, none⟩), r] (w2.drewN q) fun e w3 => e = .returned (.tuple #[]) ∧ Asked w B N vl w3 := fun w2 q r h1 h2 => by
   have hb2 : Below w.heap.size w (w2.drewN q) := hG.below.trans ((h2.mono hG.below.size).trans ((bdrew w2 q).mono (Nat.le_trans hG.below.size h2.size)))
   refine (keep_one B N _ r vl _ w (w2.drewN q) hbk hb2 (owns_base (show (w2.drewN q).ownsRow _ _ _ _ _ _ from h1) hG.below.size) hN (by omega)).mono ?_
   rintro e w3 ⟨rfl, vl', q1, q2, q3, _, _, q6⟩
   exact ⟨rfl, N + 1, vl', by omega, q1, q2, q3, q6⟩
 have HG := hide hG
 have Htk := hide htk
 have Hxt := hide hxt
 have Hsm := hide hsm
 have Hkp := hide hkp
 obtain ⟨y0, y1, y2, y3, y4, y5⟩ := op_cells hG.box
 obtain ⟨u0, u1⟩ := pair_cells hG.pair
 generalize k0.1 = T at *
 clear hG htk hxt hsm hkp hread hp hbk ha
 go_enter Tryz.func22, Tryz.ntmps22
 go_wp2
 rw [← HG.out.is]
 go_region_held3 (fun w' => w'.cell? ⟨p.Pb, 1, none⟩ = some (.pointer (some ⟨p.Y, 0, none⟩)) ∧ w'.cell? ⟨w.heap.size, 2, none⟩ = some (.int .i64 A)) (go_keep)
   (first | (go_at_call 51; refine (Htk.out 1).mono ?_; rintro e w1 ⟨at', ct, rfl, hv, e1⟩; subst e1; have Hv := hide hv; clear hv))
 go_wp2
 go_region_held3 (fun w' => w'.cell? ⟨p.Pb, 0, none⟩ = some (.pointer (some ⟨p.g.X, 0, none⟩)) ∧ w'.cell? ⟨w.heap.size, 2, none⟩ = some (.int .i64 A)) (go_keep)
   (first | (go_at_call 15; refine (Hxt.out _).mono ?_; rintro e w2 ⟨r, rfl, hr, hb2⟩; have Hr := hide hr; have Hb2 : Hid (Below w0.heap.size w0 w2) := ⟨hb2.os, hb2.tape, hb2.output, hb2.size, hb2.block⟩; obtain ⟨z0, z1, z2, z3, z4, z5⟩ := op_cells ((Hb2.out.block _ (lt_blk HG.out.box)).trans HG.out.box); obtain ⟨t0, t1⟩ := pair_cells ((Hb2.out.block _ (lt_blk HG.out.pair)).trans HG.out.pair); clear hr hb2))
 go_wp2_with (first
   | (go_at_call 16; refine (Hsm.out w2 r _ Hr.out Hb2.out Hv.out).mono ?_; rintro e w3 ⟨rfl, q3, e3⟩; subst e3)
   | (go_at_call 50; refine (Hkp.out w2 _ r Hr.out Hb2.out).mono ?_; rintro e w4 ⟨rfl, hfin⟩; have Hfin := hide hfin; clear hfin)
   | (go_at_call 25; refine Calls_use (num_any _ _) ?_))
 go_ret
 exact ⟨rfl, Hfin.out⟩
set_option maxRecDepth 100000 in
set_option maxHeartbeats 4000000 in
theorem puts_Append (B0 K : Nat) (p : PD) (w : World) (hp : PairI B0 K w p) (hB0 : B0 ≤ w.heap.size) (hK : K ≤ w.heap.size) (H A Bv C : Int) (vT : Value) (n : Nat) (f : Nat → Int) (hT : ArgI B0 w vT n f) (hA : -9223372036854775808 ≤ A ∧ A ≤ 9223372036854775807) (hnt : p.nt ≤ 5000000000000) :
   Calls Tryz.prog 20 #[.pointer (some ⟨p.Pb, 0, none⟩), .agg #[.int .i64 H, .int .i64 5, .int .i64 A, .int .i64 Bv, .int .i64 C, vT]] w fun e w' => e = .returned (.bool true) ∧ ∃ p', Moved B0 K w p w' p' := by
 obtain ⟨w0, hw0⟩ : ∃ w0, w0 = w.alloc (.cells #[.int .i64 H, .int .i64 5, .int .i64 A, .int .i64 Bv, .int .i64 C, vT] 38) := ⟨_, rfl⟩
 have hb0 : Below w.heap.size w w0 := by rw [hw0]; exact (Below.refl _ _).alloc (Nat.le_refl _) _
 have x0 : w0.heap[w.heap.size]? = some (.cells #[.int .i64 H, .int .i64 5, .int .i64 A, .int .i64 Bv, .int .i64 C, vT] 38 (0, 0)) := by rw [hw0]; exact alloc_new _ _
 have hs0 := hb0.size
 have hroomy := roomy_all B0 vT n f w0 (hT.keep (fun k hk => hb0.block k (by omega))) (by omega)
 have hp0 := hp.below hb0
 have hnb : n ≤ 100000000000000 := by
   rcases hT with ⟨_, rfl⟩ | ⟨_, _, _, _, _, h, _⟩ <;> omega
 -- both calls
 have hboth : ∀ w1, Below w0.heap.size w0 w1 → ∃ (code : Nat) (L' : List (Int × Key)) (il' : List (List Nat)),
     (∀ q vt, Ints w1 vt n f → Calls Tryz.prog 45 #[.pointer (some ⟨p.g.X, 0, none⟩), .int .i64 A, vt] (w1.drewN q) fun e w2 => e = .returned (.int .i64 code) ∧ XTo (fun b => b < w0.heap.size ∨ w1.heap.size ≤ b) w1 p L' il' w2) ∧
     ∀ w2 q, XTo (fun b => b < w0.heap.size ∨ w1.heap.size ≤ b) w1 p L' il' w2 → Calls Tryz.prog 46 #[.pointer (some ⟨p.Y, 0, none⟩), .int .i64 A, vT] (w2.drewN q) fun e w3 => e = .returned (.int .i64 code) ∧ ∃ nt' vL' vI', nt' ≤ p.nt + 1 ∧ MidI (fun b => b < w0.heap.size ∨ w1.heap.size ≤ b) K w1 w3 p L' il' nt' vL' vI' := fun w1 hb1 => by
   have s1 := hb1.size
   obtain ⟨code, L', il', hX, hY⟩ := xappend (fun b => b < w0.heap.size ∨ w1.heap.size ≤ b) p w1 hp.cok (((hp0.held.and_old hp.cok).below hb1).okmono (fun b hb => .inl hb.2)) ((hp0.ref.old.below hb1).okmono (fun b hb => .inl hb)) (fun b hb => .inr hb) hnt A hA n hnb f
   refine ⟨code, L', il', hX, fun w2 q hx => ?_⟩
   have hlow : ∀ k, k < B0 → w2.heap[k]? = w.heap[k]? := fun k hk => by
     rw [hx.1.only.block k (by omega) (fun hF => by have := (hp.lo k (.inl hF)).1; omega), hb1.block k (by omega), hb0.block k (by omega)]
   have s2 := hx.1.size
   refine (hY w2 q vT hx ((hT.keep hlow).ints (by omega))).mono ?_
   rintro e w3 ⟨rfl, nt', hn, hr⟩
   obtain ⟨vL', vI', hm⟩ := mid_of (hp0.below hb1) hx hr
   exact ⟨rfl, nt', vL', vI', hn, hm⟩
 have hkept : ∀ w1 w3 r L' il' nt' vL' vI', Below w0.heap.size w0 w1 → RoomI w0.heap.size w1 r vT n f → MidI (fun b => b < w0.heap.size ∨ w1.heap.size ≤ b) K w1 w3 p L' il' nt' vL' vI' → Calls Tryz.prog 47 #[r, vT] w3 fun e w' => e = .returned (.bool true) ∧ w' = w3 := fun w1 w3 r L' il' nt' vL' vI' hb1 hr hm => by
   refine kept_all B0 w0.heap.size r vT n f w3 (hT.keep (fun k hk => ?_)) (hr.keep (hm.keep _ (by unfold quietT mutT; decide)))
   have s1 := hb1.size
   rw [hm.only.block k (by omega) (fun hF => by have := (hp.lo k hF).1; omega), hb1.block k (by omega), hb0.block k (by omega)]
 have hfin : ∀ w1 w3 w4 r L' il' nt' vL' vI', Below w0.heap.size w0 w1 → RoomI w0.heap.size w1 r vT n f → nt' ≤ p.nt + 1 → MidI (fun b => b < w0.heap.size ∨ w1.heap.size ≤ b) K w1 w3 p L' il' nt' vL' vI' → Only (fun b => r.ownBlock = some b) w3 w4 → ∃ p', Moved B0 K w p w4 p' := fun w1 w3 w4 r L' il' nt' vL' vI' hb1 hr hn hm ho => by
   have hm0 := hm.base hb1 ⟨hp0.held.sm.1, hp0.held.sm.2⟩
   have hsm0 := hp0.held.sm
   have hm4 : MidI (fun b => b < w0.heap.size ∨ w1.heap.size ≤ b) K w0 w4 p L' il' nt' vL' vI' := by
     rcases hr with ⟨_, _, rfl⟩ | ⟨g', c', a', cap', ev, rfl, hrow⟩
     · have ho' : Only (fun _ => False) w3 w4 := ho.mono (fun k _ hk => by cases hk)
       have hbw : Below w3.heap.size w3 w4 := ⟨ho'.os, ho'.tape, ho'.output, ho'.size, fun k hk => ho'.block k hk (fun h => h)⟩
       exact ⟨hm0.held.below hbw, hm0.ref.below hbw, hm0.own, hm0.at', hm0.only.trans ho' (fun _ _ h => h.elim), fun e he => (hm0.keep e he).trans (KeepT.of_below hbw), fun k cur fr hk hh => KeepT.of_below hbw _ _ _ (hm0.keepI k cur fr hk hh)⟩
     · obtain ⟨q1, q2⟩ := hrow.lt g' rfl
       have hrow3 := owns_keepT hrow (hm.keep 3 (by unfold quietT mutT; decide))
       refine hm0.over (b := g') hp0 (ho.mono (fun k _ hk => by injection hk with hk; exact hk.symm)) ?_ (by omega) (by omega)
       obtain ⟨_, ⟨e1, _⟩ | ⟨g3, cap3, cur3, e3, _, hh, _⟩⟩ := hrow3
       · cases e1
       · injection e3 with e3 _ _
         injection e3 with e3
         injection e3 with e3 _ _
         exact ⟨cur3, (0, 0), by rw [e3]; exact hh⟩
   obtain ⟨p', h⟩ := hm4.moved hp0 (by omega) (by omega) hn
   exact ⟨p', h.base hb0⟩
 obtain ⟨aT, cT, eT⟩ := hT.slice
 have hobj0 := (hb0.block _ (lt_blk hp.obj)).trans hp.obj
 have HW0 := hide hw0
 have Hroomy := hide hroomy
 have Hboth := hide hboth
 have Hkept := hide hkept
 have Hfin := hide hfin
 have HeT := hide eT
 have Hx0 := hide x0
 have Hobj0 := hide hobj0
 have Hb0 := hide hb0
 clear hw0 hroomy hboth hkept hfin hp hp0 hT eT x0 hobj0 hb0
 go_enter Tryz.func20, Tryz.ntmps20
 go_wp2_with (first
   | (go_at_call 43; rw [← HW0.out]; refine Hroomy.out.mono ?_; rintro e w1 ⟨r, rfl, hroom, hb1⟩; obtain ⟨y0, y1, y2, y3, y4, y5⟩ := op_cells ((hb1.block _ (lt_blk Hx0.out)).trans Hx0.out); obtain ⟨u0, u1⟩ := pair_cells ((hb1.block _ (lt_blk Hobj0.out)).trans Hobj0.out); obtain ⟨code, L', il', hX, hY⟩ := Hboth.out w1 hb1; have HX := hide hX; have HY := hide hY; have Hb1 := hide hb1; have Hroom := hide hroom; clear hb1 hroom hX hY))
 go_region_held3 (fun w' => w'.cell? ⟨p.Pb, 0, none⟩ = some (.pointer (some ⟨p.g.X, 0, none⟩)) ∧ w'.cell? ⟨w.heap.size, 2, none⟩ = some (.int .i64 A)) (go_keep)
   (first | (go_at_call 45; refine (HX.out 1 r Hroom.out.ints.ints).mono ?_; rintro e w2 ⟨rfl, h2⟩; obtain ⟨z0, z1, z2, z3, z4, z5⟩ := op_cells (h2.1.kept 38 (by unfold mutT; decide) _ _ _ ((Hb1.out.block _ (lt_blk Hx0.out)).trans Hx0.out)); obtain ⟨t0, t1⟩ := pair_cells (h2.1.kept 46 (by unfold mutT; decide) _ _ _ ((Hb1.out.block _ (lt_blk Hobj0.out)).trans Hobj0.out)); have H2 := hide h2; clear h2))
 go_wp2
 go_region_held3 (fun w' => w'.cell? ⟨p.Pb, 1, none⟩ = some (.pointer (some ⟨p.Y, 0, none⟩)) ∧ w'.cell? ⟨w.heap.size, 2, none⟩ = some (.int .i64 A) ∧ w'.cell? ⟨w.heap.size, 5, none⟩ = some vT) (go_keep)
   (first | (go_at_call 46; refine (HY.out w2 1 H2.out).mono ?_; rintro e w3 ⟨rfl, nt', vL', vI', hn', h3⟩; obtain ⟨m0, m1, m2, m3, m4, m5⟩ := op_cells (h3.keep 38 (by unfold quietT mutT; decide) _ _ _ ((Hb1.out.block _ (lt_blk Hx0.out)).trans Hx0.out)); obtain ⟨v0, v1⟩ := pair_cells (h3.keep 46 (by unfold quietT mutT; decide) _ _ _ ((Hb1.out.block _ (lt_blk Hobj0.out)).trans Hobj0.out)); have H3 := hide h3; clear h3))
 all_goals (
   obtain ⟨ra, rc, er⟩ := Hroom.out.slice
   subst er
   have hlen : n ≤ 9223372036854775807 := by
     obtain ⟨_, c', e, q1, q2, _⟩ := Hroom.out.ints
     unfold maxLen at q2
     omega
   have hroom3 := Hroom.out.keep (H3.out.keep _ (by unfold quietT mutT; decide))
   have Hroom3 := hide hroom3
   clear hroom3
   go_wp2_with (go_at_call 47; refine (Hkept.out w1 w3 _ _ _ _ _ _ Hb1.out Hroom.out H3.out).mono ?_; rintro e w9 ⟨rfl, e9⟩; have e9' := e9.symm; clear e9; subst e9')
   go_loopw [9] (fun i wr => ∃ k : Nat, k ≤ n ∧ i = .int .i64 k ∧ Hid (Only (fun b => (Value.slice ra n rc).ownBlock = some b) w3 wr ∧ RoomI w0.heap.size wr (.slice ra n rc) vT n (fun j => if j < k then 0 else f j))) (fun i _ => n - (intOf i).toNat)
   case atStart => exact ⟨0, Nat.zero_le _, rfl, (Only.refl _ _), by simpa using Hroom3.out⟩
   case round =>
     obtain ⟨k, hk, rfl, Hinv⟩ := hrel
     by_cases hlt : k < n
     · obtain ⟨hO, hroomk⟩ := Hinv.out
       rcases hroomk with ⟨_, e, _⟩ | ⟨g', c', a', cap', ev, er, hrow⟩
       · omega
       · injection er with er1 _ er3
         subst er1 er3
         rcases OwnI.of_owns hrow with ⟨_, h0⟩ | ⟨b, cap, e, ho⟩
         · omega
         · injection e with e1 _ e3
           injection e1 with e1
           injection e1 with e1 _ _
           subst e1 e3
           have c0 := ho.cell k (by omega)
           have f0 := ho.frozen k
           have hset := (ho.set k 0).owns
           have e9 : (List.range (n + 8)).map (fun j => Value.int .i64 (if j = k then 0 else marked n (fun j => if j < k then 0 else f j) j)) = (List.range (n + 8)).map (fun j => Value.int .i64 (marked n (fun j => if j < k + 1 then 0 else f j) j)) := by
             apply List.map_congr_left
             intro j _
             unfold marked
             by_cases h1 : j = k
             · rw [if_pos h1, if_pos (by omega)]; simp only [if_pos (show j < k + 1 by omega)]
             · rw [if_neg h1]
               by_cases h2 : j < k
               · simp only [if_pos (show j < n by omega), if_pos h2, if_pos (show j < k + 1 by omega)]
               · simp only [if_neg h2, if_neg (show ¬ j < k + 1 by omega)]
           rw [e9] at hset
           have hroom' : RoomI w0.heap.size (wr.setCell ⟨g', k, none⟩ (.int .i64 0)) (.slice (some ⟨g', 0, none⟩) n rc) vT n (fun j => if j < k + 1 then 0 else f j) := .inr ⟨g', rc, a', cap', ev, rfl, hset⟩
           have hO' := hO.setCell (p := ⟨g', k, none⟩) (fun _ => rfl) (.int .i64 0)
           have Hroom' := hide hroom'
           have HO' := hide hO'
           clear hroom' hO' hset e9 ho hrow
           go_wp2
           go_roundw
           case rel => exact ⟨k + 1, by omega, by go_num, HO'.out, Hroom'.out⟩
           case measure => simp [intOf]; omega
     · go_wp2
       go_ret
       exact ⟨rfl, Hfin.out w1 w3 wr _ _ _ _ _ _ Hb1.out Hroom.out hn' H3.out Hinv.out.1⟩)
end Go.Proofs.YtlmflighkkgikaaGreat
