import Derived.Test.YtlmflighkkgikaaP12
import Derived.Test.YtlmflighkkgikaaP19
import Derived.Test.YtlmflighkkgikaaP43

namespace Go.Proofs.Ytlmflighkkgikaa
open Go.RowKit
attribute [local go_sem ↓] Go.wp_at_zero Go.wp_at_succ
theorem HeldK.bel {B0 : Nat} {w w' : World} {p p' : HD} (h : HeldK B0 w p) (ha : ActedK w w' p p') (hB : B0 ≤ w.heap.size) : Below B0 w w' :=
 ⟨ha.moves.only.os, ha.moves.only.tape, ha.moves.only.output, ha.moves.only.size, fun k hk => ha.moves.only.block k (by omega) (fun hs => by have := (h.lo k hs).1; omega)⟩
theorem knew (c : Cfg) (hc : c.ok) (w : World) : Calls Try.prog 28 #[cfgV c] w fun e w' => ∃ p : HD, e = .returned (.tuple #[.pointer (some ⟨p.g.X, 0, none⟩), .int .i64 0]) ∧ HeldK w.heap.size w' p ∧ p.c = c ∧ p.L = [] ∧ p.il = [] ∧ Below w.heap.size w w' := by
 have h1 := hc.blocks
 have h2 := hc.slots
 have h3 := hc.layers
 have h4 := hc.heads
 have h5 := hc.pairs
 have h6 := hc.vocab
 have := new_any (fun _ => True) c hc ⟨c.blocks, c.slots, c.layers, c.heads, c.pairs, c.vocab, c.seed⟩ (by unfold Raw.right; simp only []; omega) rfl w
 refine this.mono ?_
 rintro e w' ⟨g, rfl, ⟨g1, g2⟩, hh, hb⟩
 have hsm := hh.sm.2
 refine ⟨⟨g, c, [], [], fun k => (w.heap.size ≤ k ∧ k ≠ g.SM) ∧ k < w'.heap.size⟩, rfl, ⟨hc, ?_, ?_⟩, rfl, rfl, rfl, hb⟩
 · exact hh.sub (fun k hk hf => ⟨hf, hk⟩) (fun q => q.1.2 rfl)
 · rintro k (⟨⟨q, _⟩, q'⟩ | rfl)
   · exact ⟨q, q'⟩
   · exact ⟨g2, hsm⟩
theorem nUsed_one {s : Nat} (hs : 1 ≤ s) (k : Key) (hk : keyOk s k) : nUsed s [k] = nbOf s k.1.length := by
 rw [← kchain_len]
 refine nUsed_eq s [k] (chain s k) hs (fun h hh => by rw [List.mem_singleton.1 hh]; exact hk) (chain_nodup s hs _ k (Nat.le_refl _) hk) (fun x => ?_)
 rw [mem_chain s k x hs hk]
 unfold heldBy
 simp
theorem endKey_ok (s : Nat) (T : List Nat) (tn : Nat) (h : tn ≠ 0) : keyOk s (endKey s T tn) := by
 unfold keyOk endKey
 simp only []
 by_cases e : T.length % s = 0
 · simp [e]
 · simp [e, h]
theorem nb_one {s : Nat} (hs : 1 ≤ s) : nbOf s 1 = 1 := by
 unfold nbOf
 rw [show 1 + s - 1 = s by omega]
 exact Nat.div_self (by omega)
theorem ils_nil (c : Cfg) (k0 : Key) (H0 : List Key) (T : List Nat) : ilS c k0 H0 [] T = [] := by
 unfold ilS upS notUp
 simp
theorem leftOf_len (s : Nat) (H : List Key) (k : Key) : (leftOf s H k).length ≤ nbOf s k.1.length := by
 unfold leftOf
 refine Nat.le_trans (List.length_filterMap_le _ _) ?_
 rw [List.length_reverse, kchain_len]
 exact Nat.le_refl _
theorem one_created {B0 : Nat} {w : World} {p : HD} (h : HeldK B0 w p) (hL : p.L = []) (_hI : p.il = []) : createS p.c p.L p.il (-1) 1 (fun _ => 1) = 0 := by
 have hv := h.cok.vocab
 have hb := h.cok.blocks
 have hs := h.cok.slots.1
 have hnf : ¬ fullS p.c ([], 0) (p.L.map (·.2)) p.il (natsOf 1 (fun _ => 1)) := fun q => by
   have := h.full_new _ q
   rw [hL, natsOf_len, nb_one hs] at this
   simp [nbSum] at this
   omega
 unfold createS
 rw [if_neg (by rw [hL]; simp [assoc_nil]), if_neg (by rw [hL]; simp), if_neg (by rintro ⟨j, _, q⟩; have q' : (1 : Int) < 0 ∨ (p.c.vocab : Int) ≤ 1 := q; omega), if_neg (by omega), if_neg hnf]
theorem single_split {α : Type} {L1 L2 : List α} {x y : α} (h : [y] = L1 ++ x :: L2) : L1 = [] ∧ L2 = [] ∧ x = y := by
 cases L1 with
 | nil => simp at h; exact ⟨rfl, h.2, h.1.symm⟩
 | cons a L1 => simp at h
theorem kone_create {B0 : Nat} {w : World} {p : HD} (h : HeldK B0 w p) (hB : B0 ≤ w.heap.size) (hL : p.L = []) (hI : p.il = []) (vt : Value) (ht : Ints w vt 1 (fun _ => 1)) :
   Calls Try.prog 13 #[.pointer (some ⟨p.g.X, 0, none⟩), .int .i64 (-1), vt] w fun e w' => e = .returned (.int .i64 0) ∧ ∃ p' k, HeldK B0 w' p' ∧ ActedK w w' p p' ∧ k.1 = [1] ∧ keyOk p.c.slots k ∧ p'.L = [(-1, k)] ∧ p'.il = [] := by
 refine (kcreate h hB (-1) 1 (fun _ => 1) vt (by omega) ht).mono ?_
 rintro e w' ⟨rfl, p', a, b, ⟨h0, _⟩ | ⟨_, tn, htn, c, d⟩⟩
 · exact absurd (one_created h hL hI) h0
 · rw [one_created h hL hI]
   refine ⟨rfl, p', endKey p.c.slots (natsOf 1 fun _ => 1) tn, a, b, rfl, endKey_ok _ _ _ htn.1, ?_, ?_⟩
   · rw [c, hL]; rfl
   · rw [d, hI, ils_nil]
theorem kone_free {B0 : Nat} {w : World} {p : HD} (h : HeldK B0 w p) (hB : B0 ≤ w.heap.size) {k : Key} (hk : k.1 = [1]) (hL : p.L = [(-1, k)]) (hI : p.il = []) :
   Calls Try.prog 19 #[.pointer (some ⟨p.g.X, 0, none⟩), .int .i64 (-1)] w fun e w' => e = .returned (.int .i64 0) ∧ ∃ p', HeldK B0 w' p' ∧ ActedK w w' p p' ∧ p'.L = [] ∧ p'.il.length ≤ 1 := by
 refine (kfree h hB (-1) (by omega)).mono ?_
 rintro e w' ⟨code, rfl, p', a, b, ⟨h0, _⟩ | ⟨k0, L1, L2, eL, _, rfl, c, d⟩⟩
 · rw [hL] at h0; simp [assoc_cons] at h0
 · rw [hL] at eL
   obtain ⟨e1, e2, e3⟩ := single_split eL
   injection e3 with _ e3
   refine ⟨rfl, p', a, b, by rw [c, e1, e2]; rfl, ?_⟩
   rw [d, hI, List.nil_append]
   refine Nat.le_trans (leftOf_len _ _ _) ?_
   rw [e3, hk]
   exact Nat.le_of_eq (nb_one h.cok.slots.1)
theorem kone_evict {B0 : Nat} {w : World} {p : HD} (h : HeldK B0 w p) (hB : B0 ≤ w.heap.size) (hL : p.L = []) (hI : p.il.length ≤ 1) :
   Calls Try.prog 27 #[.pointer (some ⟨p.g.X, 0, none⟩), .int .i64 1] w fun e w' => (∃ v, e = .returned v) ∧ ∃ p', HeldK B0 w' p' ∧ ActedK w w' p p' ∧ p'.L = [] ∧ p'.il = [] := by
 refine (kevict h hB 1).mono ?_
 rintro e w' ⟨rfl, p', a, b, c, d⟩
 refine ⟨⟨_, rfl⟩, p', a, b, c.trans hL, ?_⟩
 rw [d]
 unfold evN
 apply List.drop_of_length_le
 have : (1 : Int).toNat = 1 := rfl
 omega
theorem kone_tokens {B0 : Nat} {w : World} {p : HD} (h : HeldK B0 w p) {k : Key} (hk : k.1 = [1]) (hL : p.L = [(-1, k)]) :
   Calls Try.prog 26 #[.pointer (some ⟨p.g.X, 0, none⟩), .int .i64 (-1)] w fun e w' => ∃ r, e = .returned (.tuple #[r, .int .i64 0]) ∧ IntsT w' r 1 (fun _ => 1) ∧ Below w.heap.size w w' := by
 have hh := h.held
 refine (htokens_some p.F (fun _ => True) p.g p.c h.cok p.L p.il (-1) k w hh (by omega) (by rw [hL]; simp [assoc_cons])).mono ?_
 rintro e w' ⟨r, rfl, ho, hb⟩
 refine ⟨r, rfl, ?_, hb⟩
 have := IntsT.of_owns ho
 rw [hk] at this
 exact this.congr (fun j hj => by
   have e : j = 0 := by have : j < 1 := hj; omega
   subst e; rfl)
theorem one_slice (w : World) (x : Int) (t : TypeId) : Ints (w.alloc (.cells #[.int .i64 x] t)) (.slice (some ⟨w.heap.size, 0, none⟩) 1 1) 1 (fun _ => x) := by
 refine ⟨_, 1, rfl, Nat.le_refl _, by unfold maxLen; omega, fun _ => ⟨w.heap.size, 0, rfl, by simp, fun j hj => ?_⟩⟩
 have : j = 0 := by omega
 subst this
 exact one_new w (.int .i64 x) t 0 _ rfl
theorem kone_stats {B0 : Nat} {w : World} {p : HD} (h : HeldK B0 w p) {k : Key} (hk : k.1 = [1]) (ho : keyOk p.c.slots k) (hL : p.L = [(-1, k)]) (hI : p.il = []) :
   Calls Try.prog 18 #[.pointer (some ⟨p.g.X, 0, none⟩)] w fun e w' => e = .returned (.agg #[.int .i64 ((p.c.blocks : Int) - 1), .int .i64 0, .int .i64 1]) ∧ Below w.heap.size w w' := by
 have h1 := kstats h
 have hs := h.cok.slots.1
 have hb := h.cok.blocks
 have e1 : nUsed p.c.slots (p.L.map (·.2)) = 1 := by
   rw [hL]
   show nUsed p.c.slots [k] = 1
   rw [nUsed_one hs k ho, hk]
   exact nb_one hs
 have e2 : ((freeS p.c (p.L.map (·.2)) p.il : Nat) : Int) = (p.c.blocks : Int) - 1 := by
   unfold freeS
   rw [e1, hI]
   simp
   omega
 rw [e1, e2, hI] at h1
 exact h1
theorem knone_stats {B0 : Nat} {w : World} {p : HD} (h : HeldK B0 w p) (hL : p.L = []) (hI : p.il = []) :
   Calls Try.prog 18 #[.pointer (some ⟨p.g.X, 0, none⟩)] w fun e w' => e = .returned (.agg #[.int .i64 p.c.blocks, .int .i64 0, .int .i64 0]) ∧ Below w.heap.size w w' := by
 have h1 := kstats h
 have e1 : nUsed p.c.slots (p.L.map (·.2)) = 0 := by rw [hL]; rfl
 have e2 : freeS p.c (p.L.map (·.2)) p.il = p.c.blocks := by
   unfold freeS
   rw [e1, hI]
   simp
 rw [e1, e2, hI] at h1
 exact h1
set_option maxRecDepth 100000 in
set_option maxHeartbeats 4000000 in
theorem hkhoarded_any (c : Cfg) (hc : c.ok) (w : World) :
   Calls Try.prog 11 #[cfgV c] w fun e w' => ∃ p : HD, e = .returned (.pointer (some ⟨p.g.X, 0, none⟩)) ∧ HeldK w.heap.size w' p ∧ p.c = c ∧ p.L = [] ∧ p.il = [] ∧ Below w.heap.size w w' := by
 obtain ⟨b1, b2⟩ := hc.blocks
 obtain ⟨s1, s2⟩ := hc.slots
 have hnew := knew c hc
 have Hnew := hide hnew
 have Hc := hide hc
 clear hnew hc
 unfold cfgV at *
 obtain ⟨W0, hW0⟩ : ∃ W0, W0 = w.alloc (.cells #[.int .i64 c.blocks, .int .i64 c.slots, .int .i64 c.layers, .int .i64 c.heads, .int .i64 c.pairs, .int .i64 c.vocab, .int .i64 c.seed] 26) := ⟨_, rfl⟩
 have hB0 : Below w.heap.size w W0 := by rw [hW0]; exact (Below.refl _ _).alloc (Nat.le_refl _) _
 have hn0 : W0.heap[w.heap.size]? = some (.cells #[.int .i64 c.blocks, .int .i64 c.slots, .int .i64 c.layers, .int .i64 c.heads, .int .i64 c.pairs, .int .i64 c.vocab, .int .i64 c.seed] 26 (0, 0)) := by rw [hW0]; exact alloc_new _ _
 have hsz0 : W0.heap.size = w.heap.size + 1 := by rw [hW0]; simp
 obtain ⟨x0, x1, x2, x3, x4, x5, x6⟩ := cfg_cells hn0
 have HW0 := hide hW0
 clear hW0
 go_enter Try.func11, Try.ntmps11
 go_wp2_with (first
   | (go_at_call 28; rw [← HW0.out]; refine (Hnew.out W0).mono ?_; rintro e w1 ⟨p1, rfl, hp1, ec1, eL1, eI1, hb1⟩;
      have hs1 := hb1.size;
      have hcr := kone_create (hp1.below ((Below.refl _ _).alloc (Nat.le_refl _) _)) (by simp; omega) eL1 eI1 _ (one_slice w1 1 3);
      have hp1a := hp1.below ((Below.refl _ _).alloc (Nat.le_refl _) (.cells #[.int .i64 1] 3)); have Hp1 := hide hp1a; have HB1 := hide (hb1.alloc hb1.size (.cells #[.int .i64 1] 3));
      have Hcr := hide hcr; have Hc1 := hide ec1; clear hcr hp1 hp1a ec1 eL1 eI1 hb1 x0 x1 x2 x3 x4 x5 x6 Hnew)
   | (go_at_call 13; refine Hcr.out.mono ?_; clear Hcr; rintro e w2 ⟨rfl, p2, k, hp2, ha2, hk, hko, eL2, eI2⟩;
      have hst := kone_stats hp2 hk (by rw [ha2.c]; exact hko) eL2 eI2; rw [ha2.g, ha2.c, Hc1.out] at hst;
      have hs2 := ha2.moves.size; simp at hs2;
      have HB2 := hide (HB1.out.trans (Hp1.out.bel ha2 (by simp; omega))); have Hst := hide hst; have Hp2 := hide hp2; have Ha2 := hide ha2; have Hk := hide hk; have HL2 := hide eL2; have HI2 := hide eI2; clear hst hp2 ha2 hk hko eL2 eI2)
   | (go_at_call 18; refine Hst.out.mono ?_; clear Hst; rintro e w3 ⟨rfl, hb3⟩;
      have hs3 := hb3.size;
      have hp3 := (Hp2.out.below hb3).below ((Below.refl _ _).alloc (Nat.le_refl _) (.cells #[.int .i64 ((c.blocks : Int) - 1), .int .i64 0, .int .i64 1] 40));
      have htk := kone_tokens hp3 Hk.out HL2.out; rw [Ha2.out.g] at htk;
      have HB3 := hide ((HB2.out.trans (hb3.mono (by omega))).alloc (by omega) (.cells #[.int .i64 ((c.blocks : Int) - 1), .int .i64 0, .int .i64 1] 40)); have Htk := hide htk; have Hp3 := hide hp3; clear htk hp3 hb3)
   | (go_at_call 26; refine Htk.out.mono ?_; clear Htk; rintro e w4 ⟨r, rfl, hr, hb4⟩;
      have hs4 := hb4.size; simp at hs4;
      have hp4 := Hp3.out.below hb4;
      have hfr := kone_free hp4 (by omega) Hk.out HL2.out HI2.out; rw [Ha2.out.g] at hfr;
      have hst3 := (hb4.block w3.heap.size (by simp)).trans (alloc_new w3 (.cells #[.int .i64 ((c.blocks : Int) - 1), .int .i64 0, .int .i64 1] 40));
      have HB4 := hide (HB3.out.trans (hb4.mono (by simp; omega))); have Hfr := hide hfr; have Hr := hide hr; have Hp4 := hide hp4; have Hst3 := hide hst3; clear hfr hr hp4 hb4 hst3)
   | (go_at_call 19; refine Hfr.out.mono ?_; clear Hfr; rintro e w5 ⟨rfl, p5, hp5, ha5, eL5, eI5⟩;
      have hs5 := ha5.moves.size;
      have hr5 := (Hr.out.keep (ha5.moves.kept 3 (by unfold mutT; decide))).ints.below ((Below.refl _ _).alloc (Nat.le_refl _) (.cells #[.int .i64 1] 3));
      have hsm := hksame_any 1 1 r _ _ _ _ hr5 (one_slice w5 1 3);
      have hst5 := ha5.moves.kept 40 (by unfold mutT; decide) _ _ _ Hst3.out;
      have HB5 := hide ((HB4.out.trans (Hp4.out.bel ha5 (by omega))).alloc (by omega) (.cells #[.int .i64 1] 3)); have Hsm := hide hsm; have Hp5 := hide hp5; have Ha5 := hide ha5; have HL5 := hide eL5; have HI5 := hide eI5; have Hst5 := hide hst5; clear hr5 hsm hp5 ha5 eL5 eI5 hst5)
   | (go_at_call 25; refine Hsm.out.mono ?_; clear Hsm; rintro e w6 ⟨rfl, q, rfl⟩;
      have hp6 := (Hp5.out.below ((Below.refl _ _).alloc (Nat.le_refl _) (.cells #[.int .i64 1] 3))).below (below_drewN (Below.refl _ _) q);
      have hev := kone_evict hp6 (by simp; omega) HL5.out HI5.out; rw [Ha5.out.g, Ha2.out.g] at hev;
      have hst6 := ((Below.refl _ _).alloc (Nat.le_refl _) (.cells #[.int .i64 1] 3)).block w3.heap.size (lt_blk Hst5.out) |>.trans Hst5.out; have HB6 := hide (below_drewN HB5.out q); have Hst6 := hide hst6; have Hev := hide hev; have Hp6 := hide hp6; clear hev hp6 hst6)
   | (go_at_call 27; refine Hev.out.mono ?_; clear Hev; rintro e w7 ⟨⟨v7, rfl⟩, p7, hp7, ha7, eL7, eI7⟩;
      have hs7 := ha7.moves.size; simp at hs7;
      have hst := knone_stats hp7 eL7 eI7; rw [ha7.g, ha7.c, Ha5.out.g, Ha5.out.c, Ha2.out.g, Ha2.out.c, Hc1.out] at hst;
      have hst7 := ha7.moves.kept 40 (by unfold mutT; decide) w3.heap.size _ _ Hst6.out; have HB7 := hide (HB6.out.trans (Hp6.out.bel ha7 (by simp; omega))); have Hst7 := hide hst7; have Hst' := hide hst; have Hp7 := hide hp7; have Ha7 := hide ha7; have HL7 := hide eL7; have HI7 := hide eI7; clear hst hp7 ha7 eL7 eI7 hst7)
   | (go_at_call 18; refine Hst'.out.mono ?_; rintro e w8 ⟨rfl, hb8⟩;
      have hs8 := hb8.size;
      have hp8 := (Hp7.out.below hb8).below ((Below.refl _ _).alloc (Nat.le_refl _) (.cells #[.int .i64 c.blocks, .int .i64 0, .int .i64 0] 40));
      have hB8 := (HB7.out.trans (hb8.mono (by omega))).alloc (by omega) (.cells #[.int .i64 c.blocks, .int .i64 0, .int .i64 0] 40);
      have hst8 := (((Below.refl _ _).alloc (Nat.le_refl _) (.cells #[.int .i64 c.blocks, .int .i64 0, .int .i64 0] 40)).block w3.heap.size (lt_blk ((hb8.block _ (lt_blk Hst7.out)).trans Hst7.out))).trans ((hb8.block _ (lt_blk Hst7.out)).trans Hst7.out);
      have hbx8 := (hB8.block w.heap.size (by omega)).trans hn0;
      have z0 := cell_blk hst8 0; have z2 := cell_blk hst8 2; have zb := cell_blk hbx8 0; simp at z0 z2 zb;
      have Hp8 := hide hp8; have HB8 := hide hB8; clear hp8 hB8 hst8 hbx8 hb8 Hst'))
 go_ret
 refine ⟨p7, ?_, ⟨Hp8.out.cok, Hp8.out.held, fun k hk => ⟨by have := (Hp8.out.lo k hk).1; omega, (Hp8.out.lo k hk).2⟩⟩, ?_, HL7.out, HI7.out, hB0.trans (HB8.out.mono (by omega))⟩
 · rw [Ha7.out.g, Ha5.out.g, Ha2.out.g]; rfl
 · rw [Ha7.out.c, Ha5.out.c, Ha2.out.c, Hc1.out]
structure ActD where
 K : Int
 A : Int
 B : Int
 n : Nat
 f : Nat → Int
 vT : Value
def ActD.val (a : ActD) : Value := .agg #[.int .i64 a.K, .int .i64 a.A, .int .i64 a.B, a.vT]
structure ActD.ok (a : ActD) (w : World) : Prop where
 K : kI a.K
 A : kI a.A
 B : kI a.B
 t : Ints w a.vT a.n a.f
 f : ∀ j, j < a.n → kI (a.f j)
theorem pick_tok {x : Int} {v : Nat} (hv : 1 ≤ v) : ¬ badTok v (pickI x v) := by
 have := kpick_lt (c := x) (n := v) (by omega)
 unfold badTok
 omega
section
variable {B0 : Nat} {w : World} {p : HD} {a : ActD}
end
end Go.Proofs.Ytlmflighkkgikaa
