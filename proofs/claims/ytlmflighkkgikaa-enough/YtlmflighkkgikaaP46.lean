import Derived.Test.YtlmflighkkgikaaP45

namespace Go.Proofs.Ytlmflighkkgikaa
open Go.RowKit
attribute [local go_sem ↓] Go.wp_at_zero Go.wp_at_succ
structure ActD where
 K : Int
 A : Int
 B : Int
 n : Nat
 f : Nat → Int
 vT : Value
def ActD.val (a : ActD) : Value := .agg #[.int .i64 a.K, .int .i64 a.A, .int .i64 a.B, a.vT]
structure ActD.ok (a : ActD) (w : World) : Prop where
 K : kI a.K
 A : kI a.A
 B : kI a.B
 t : Ints w a.vT a.n a.f
 f : ∀ j, j < a.n → kI (a.f j)
theorem act_cells {w : World} {b : Nat} {a0 a1 a2 a3 : Value} {t : TypeId} {fr : Nat × Nat} (h : w.heap[b]? = some (.cells #[a0, a1, a2, a3] t fr)) :
   w.cell? ⟨b, 0, none⟩ = some a0 ∧ w.cell? ⟨b, 1, none⟩ = some a1 ∧ w.cell? ⟨b, 2, none⟩ = some a2 ∧ w.cell? ⟨b, 3, none⟩ = some a3 := by
 refine ⟨?_, ?_, ?_, ?_⟩ <;> (rw [cell_blk h]; rfl)
theorem acted_back {B0 : Nat} {w w0 w' : World} {p : HD} {Q : HD → Prop} (hb : Below w.heap.size w w0) (h : ∃ p', HeldK B0 w' p' ∧ ActedK w0 w' p p' ∧ Q p') : ∃ p', HeldK B0 w' p' ∧ ActedK w w' p p' ∧ Q p' := by
 obtain ⟨p', h1, h2, h3⟩ := h
 exact ⟨p', h1, (ActedK.below hb).trans h2, h3⟩
theorem pick_tok {x : Int} {v : Nat} (hv : 1 ≤ v) : ¬ badTok v (pickI x v) := by
 have := kpick_lt (c := x) (n := v) (by omega)
 unfold badTok
 omega
section
variable {B0 : Nat} {w : World} {p : HD} {a : ActD}
set_option maxRecDepth 100000 in
set_option maxHeartbeats 4000000 in
theorem does_create (h : HeldK B0 w p) (hB : B0 ≤ w.heap.size) (ha : a.ok w) (hk : pickI a.K 10 = 0 ∨ pickI a.K 10 = 1 ∨ pickI a.K 10 = 2) :
   Calls Try.prog 24 #[.pointer (some ⟨p.g.X, 0, none⟩), a.val, .int .i64 p.c.vocab] w fun e w' => e = .returned (.tuple #[.int .i64 (createS p.c p.L p.il (pickI a.A 5) (min a.n 9) (fun j => pickI (a.f j) p.c.vocab)), .slice none 0 0]) ∧ CreatedK B0 w p (pickI a.A 5) (min a.n 9) (fun j => pickI (a.f j) p.c.vocab) w' := by
 obtain ⟨v1, v2⟩ := h.cok.vocab
 obtain ⟨ka, aa, ba, ta, fa⟩ := ha
 have hid := kpick_lt (c := a.A) (n := 5) (by decide)
 have hot := kpick_lt (c := a.B) (n := 5) (by decide)
 have hpk := fun W => hkpick_any a.K 10 W ka (by decide) (by decide)
 have hpb := fun W => hkpick_any a.B 5 W ba (by decide) (by decide)
 have hp6 := fun W => hkpick_any a.A 6 W aa (by decide) (by decide)
 have hia := fun W => hkid_any a.A W aa
 have hib := fun W => hkid_any a.B W ba
 unfold ActD.val
 generalize a.K = K at *
 generalize a.A = A at *
 generalize a.B = Bv at *
 generalize a.n = n at *
 generalize a.f = f at *
 generalize a.vT = vT at *
 obtain ⟨W0, hW0⟩ : ∃ W0, W0 = w.alloc (.cells #[.int .i64 K, .int .i64 A, .int .i64 Bv, vT] 48) := ⟨_, rfl⟩
 have hb0 : Below w.heap.size w W0 := by rw [hW0]; exact (Below.refl _ _).alloc (Nat.le_refl _) _
 have hn0 : W0.heap[w.heap.size]? = some (.cells #[.int .i64 K, .int .i64 A, .int .i64 Bv, vT] 48 (0, 0)) := by rw [hW0]; exact alloc_new _ _
 have hs0 := hb0.size
 obtain ⟨x0, x1, x2, x3⟩ := act_cells hn0
 have hp0 := h.below hb0
 have htk := fun q => hktokens_any n p.c.vocab 9 vT f (W0.drewN q) ((ta.below hb0).below (below_drewN (Below.refl _ _) q)) (by omega) (by decide) fa
 have Htk := hide htk
 clear htk
 have Hpk := hide hpk
 have Hpb := hide hpb
 have Hp6 := hide hp6
 have Hia := hide hia
 have Hib := hide hib
 have Hp0 := hide hp0
 have Hb0 := hide hb0
 have Hn0 := hide hn0
 have HW0 := hide hW0
 have Hid := hide hid
 have Hot := hide hot
 clear hpk hpb hp6 hia hib hp0 hb0 hn0 hW0 h ta fa hid hot ka aa ba
 obtain ⟨v, hv⟩ : ∃ v : Nat, v = p.c.vocab := ⟨_, rfl⟩
 rw [← hv] at v1 v2 Htk ⊢
 have Hv := hide hv
 clear hv
 rcases hk with hk | hk | hk
 all_goals
   have Hk := hide hk
   clear hk
   go_enter Try.func24, Try.ntmps24
   go_wp2_with (go_at_call 10; rw [← HW0.out]; refine Calls_use (Hpk.out _) ?_; rw [Hk.out]; clear Hpk)
   go_region_held3 (fun w' => w'.cell? ⟨w.heap.size, 1, none⟩ = some (.int .i64 A) ∧ w'.cell? ⟨w.heap.size, 3, none⟩ = some vT) (go_keep)
     (first
       | (go_at_call 22; refine Calls_use (Hia.out _) ?_)
       | (go_at_call 12; refine (Htk.out 1).mono ?_; rintro e w1 ⟨r, rfl, hr, hb1⟩; have hb1' := below_of_drewN hb1; have hn1 := (hb1'.block _ (lt_blk Hn0.out)).trans Hn0.out; have Hn1 := hide hn1; obtain ⟨y0, y1, y2, y3⟩ := act_cells hn1; clear hn1; have hcr := fun q => kcreate ((Hp0.out.below hb1').below (below_drewN (Below.refl _ _) q)) (by have := hb1'.size; show B0 ≤ w1.heap.size; omega) (pickI A 5) (min n 9) (fun j => pickI (f j) v) r (by have := Hid.out; omega) (((IntsT.of_owns hr).drewN q).ints); have Hcr := hide hcr; have Hb1 := hide hb1'; clear hcr hr hb1 hb1')
       | (go_at_call 13; refine (Hcr.out 0).mono ?_; rintro e w2 ⟨rfl, hc⟩; have hkt : KeepT 48 w1 w2 := (by obtain ⟨p', _, hA, _⟩ := hc; exact hA.moves.kept _ (by unfold mutT; decide)); obtain ⟨z0, z1, z2, z3⟩ := act_cells (hkt _ _ _ Hn1.out); have Hc := hide hc; clear hc hkt))
   go_wp2
   go_ret2
   exact ⟨rfl, acted_back (Hb0.out.trans (Hb1.out.mono Hb0.out.size)) Hc.out⟩
set_option maxRecDepth 100000 in
set_option maxHeartbeats 4000000 in
theorem does_append (h : HeldK B0 w p) (hB : B0 ≤ w.heap.size) (ha : a.ok w) (hk : pickI a.K 10 = 3 ∨ pickI a.K 10 = 4) :
   Calls Try.prog 24 #[.pointer (some ⟨p.g.X, 0, none⟩), a.val, .int .i64 p.c.vocab] w fun e w' => ∃ code : Nat, e = .returned (.tuple #[.int .i64 code, .slice none 0 0]) ∧ AppendedK B0 w p (pickI a.A 5) (min a.n 4) (fun j => pickI (a.f j) p.c.vocab) code w' := by
 obtain ⟨v1, v2⟩ := h.cok.vocab
 obtain ⟨ka, aa, ba, ta, fa⟩ := ha
 have hid := kpick_lt (c := a.A) (n := 5) (by decide)
 have hot := kpick_lt (c := a.B) (n := 5) (by decide)
 have hpk := fun W => hkpick_any a.K 10 W ka (by decide) (by decide)
 have hpb := fun W => hkpick_any a.B 5 W ba (by decide) (by decide)
 have hp6 := fun W => hkpick_any a.A 6 W aa (by decide) (by decide)
 have hia := fun W => hkid_any a.A W aa
 have hib := fun W => hkid_any a.B W ba
 unfold ActD.val
 generalize a.K = K at *
 generalize a.A = A at *
 generalize a.B = Bv at *
 generalize a.n = n at *
 generalize a.f = f at *
 generalize a.vT = vT at *
 obtain ⟨W0, hW0⟩ : ∃ W0, W0 = w.alloc (.cells #[.int .i64 K, .int .i64 A, .int .i64 Bv, vT] 48) := ⟨_, rfl⟩
 have hb0 : Below w.heap.size w W0 := by rw [hW0]; exact (Below.refl _ _).alloc (Nat.le_refl _) _
 have hn0 : W0.heap[w.heap.size]? = some (.cells #[.int .i64 K, .int .i64 A, .int .i64 Bv, vT] 48 (0, 0)) := by rw [hW0]; exact alloc_new _ _
 have hs0 := hb0.size
 obtain ⟨x0, x1, x2, x3⟩ := act_cells hn0
 have hp0 := h.below hb0
 have htk := fun q => hktokens_any n p.c.vocab 4 vT f (W0.drewN q) ((ta.below hb0).below (below_drewN (Below.refl _ _) q)) (by omega) (by decide) fa
 have Htk := hide htk
 clear htk
 have Hpk := hide hpk
 have Hpb := hide hpb
 have Hp6 := hide hp6
 have Hia := hide hia
 have Hib := hide hib
 have Hp0 := hide hp0
 have Hb0 := hide hb0
 have Hn0 := hide hn0
 have HW0 := hide hW0
 have Hid := hide hid
 have Hot := hide hot
 clear hpk hpb hp6 hia hib hp0 hb0 hn0 hW0 h ta fa hid hot ka aa ba
 obtain ⟨v, hv⟩ : ∃ v : Nat, v = p.c.vocab := ⟨_, rfl⟩
 rw [← hv] at v1 v2 Htk ⊢
 have Hv := hide hv
 clear hv
 rcases hk with hk | hk
 all_goals
   have Hk := hide hk
   clear hk
   go_enter Try.func24, Try.ntmps24
   go_wp2_with (go_at_call 10; rw [← HW0.out]; refine Calls_use (Hpk.out _) ?_; rw [Hk.out]; clear Hpk)
   go_region_held3 (fun w' => w'.cell? ⟨w.heap.size, 1, none⟩ = some (.int .i64 A) ∧ w'.cell? ⟨w.heap.size, 3, none⟩ = some vT) (go_keep)
     (first
       | (go_at_call 22; refine Calls_use (Hia.out _) ?_)
       | (go_at_call 12; refine (Htk.out 1).mono ?_; rintro e w1 ⟨r, rfl, hr, hb1⟩; have hb1' := below_of_drewN hb1; have hn1 := (hb1'.block _ (lt_blk Hn0.out)).trans Hn0.out; have Hn1 := hide hn1; obtain ⟨y0, y1, y2, y3⟩ := act_cells hn1; clear hn1; have hcr := fun q => kappend ((Hp0.out.below hb1').below (below_drewN (Below.refl _ _) q)) (by have := hb1'.size; show B0 ≤ w1.heap.size; omega) (pickI A 5) (min n 4) (fun j => pickI (f j) v) r (by have := Hid.out; omega) (((IntsT.of_owns hr).drewN q).ints); have Hcr := hide hcr; have Hb1 := hide hb1'; clear hcr hr hb1 hb1')
       | (go_at_call 14; refine (Hcr.out 0).mono ?_; rintro e w2 ⟨code, rfl, hc⟩; have hkt : KeepT 48 w1 w2 := (by obtain ⟨p', _, hA, _⟩ := hc; exact hA.moves.kept _ (by unfold mutT; decide)); obtain ⟨z0, z1, z2, z3⟩ := act_cells (hkt _ _ _ Hn1.out); have Hc := hide hc; clear hc hkt))
   go_wp2
   go_ret2
   exact ⟨code, rfl, acted_back (Hb0.out.trans (Hb1.out.mono Hb0.out.size)) Hc.out⟩
set_option maxRecDepth 100000 in
set_option maxHeartbeats 4000000 in
theorem does_decode (h : HeldK B0 w p) (hB : B0 ≤ w.heap.size) (ha : a.ok w) (hk : pickI a.K 10 = 5 ∨ pickI a.K 10 = 6) :
   Calls Try.prog 24 #[.pointer (some ⟨p.g.X, 0, none⟩), a.val, .int .i64 p.c.vocab] w fun e w' => ∃ (code : Nat) (v : Value), e = .returned (.tuple #[.int .i64 code, v]) ∧ DecodedK B0 w p (pickI a.A 5) (pickI a.B 5) code v w' := by
 obtain ⟨v1, v2⟩ := h.cok.vocab
 obtain ⟨ka, aa, ba, ta, fa⟩ := ha
 have hid := kpick_lt (c := a.A) (n := 5) (by decide)
 have hot := kpick_lt (c := a.B) (n := 5) (by decide)
 have hpk := fun W => hkpick_any a.K 10 W ka (by decide) (by decide)
 have hpb := fun W => hkpick_any a.B 5 W ba (by decide) (by decide)
 have hp6 := fun W => hkpick_any a.A 6 W aa (by decide) (by decide)
 have hia := fun W => hkid_any a.A W aa
 have hib := fun W => hkid_any a.B W ba
 unfold ActD.val
 generalize a.K = K at *
 generalize a.A = A at *
 generalize a.B = Bv at *
 generalize a.n = n at *
 generalize a.f = f at *
 generalize a.vT = vT at *
 obtain ⟨W0, hW0⟩ : ∃ W0, W0 = w.alloc (.cells #[.int .i64 K, .int .i64 A, .int .i64 Bv, vT] 48) := ⟨_, rfl⟩
 have hb0 : Below w.heap.size w W0 := by rw [hW0]; exact (Below.refl _ _).alloc (Nat.le_refl _) _
 have hn0 : W0.heap[w.heap.size]? = some (.cells #[.int .i64 K, .int .i64 A, .int .i64 Bv, vT] 48 (0, 0)) := by rw [hW0]; exact alloc_new _ _
 have hs0 := hb0.size
 obtain ⟨x0, x1, x2, x3⟩ := act_cells hn0
 have hp0 := h.below hb0
 have hcr := fun q => kdecode (hp0.below (below_drewN (Below.refl _ _) q)) (by show B0 ≤ W0.heap.size; omega) (pickI A 5) (pickI Bv 5) (by omega) (by omega)
 have Hcr := hide hcr
 clear hcr
 have Hpk := hide hpk
 have Hpb := hide hpb
 have Hp6 := hide hp6
 have Hia := hide hia
 have Hib := hide hib
 have Hp0 := hide hp0
 have Hb0 := hide hb0
 have Hn0 := hide hn0
 have HW0 := hide hW0
 have Hid := hide hid
 have Hot := hide hot
 clear hpk hpb hp6 hia hib hp0 hb0 hn0 hW0 h ta fa hid hot ka aa ba
 obtain ⟨v, hv⟩ : ∃ v : Nat, v = p.c.vocab := ⟨_, rfl⟩
 rw [← hv] at v1 v2 ⊢
 have Hv := hide hv
 clear hv
 rcases hk with hk | hk
 all_goals
   have Hk := hide hk
   clear hk
   go_enter Try.func24, Try.ntmps24
   go_wp2_with (go_at_call 10; rw [← HW0.out]; refine Calls_use (Hpk.out _) ?_; rw [Hk.out]; clear Hpk)
   go_region_held3 (fun w' => w'.cell? ⟨w.heap.size, 1, none⟩ = some (.int .i64 A) ∧ w'.cell? ⟨w.heap.size, 2, none⟩ = some (.int .i64 Bv)) (go_keep)
     (first
       | (go_at_call 22; refine Calls_use (Hia.out _) ?_)
       | (go_at_call 10; refine Calls_use (Hpb.out _) ?_)
       | (go_at_call 15; refine (Hcr.out 1).mono ?_; rintro e w2 ⟨code, vl, rfl, hc⟩; have hkt : KeepT 48 W0 w2 := (by obtain ⟨p', _, hA, _⟩ := hc; exact hA.moves.kept _ (by unfold mutT; decide)); obtain ⟨z0, z1, z2, z3⟩ := act_cells (hkt _ _ _ Hn0.out); have Hc := hide hc; clear hc hkt))
   go_wp2
   go_ret2
   exact ⟨code, vl, rfl, acted_back (below_drewN Hb0.out 1) Hc.out⟩
set_option maxRecDepth 100000 in
set_option maxHeartbeats 4000000 in
theorem does_fork (h : HeldK B0 w p) (hB : B0 ≤ w.heap.size) (ha : a.ok w) (hk : pickI a.K 10 = 7) :
   Calls Try.prog 24 #[.pointer (some ⟨p.g.X, 0, none⟩), a.val, .int .i64 p.c.vocab] w fun e w' => ∃ code : Nat, e = .returned (.tuple #[.int .i64 code, .slice none 0 0]) ∧ ForkedK B0 w p (pickI a.A 5) (pickI a.B 5) code w' := by
 obtain ⟨v1, v2⟩ := h.cok.vocab
 obtain ⟨ka, aa, ba, ta, fa⟩ := ha
 have hid := kpick_lt (c := a.A) (n := 5) (by decide)
 have hot := kpick_lt (c := a.B) (n := 5) (by decide)
 have hpk := fun W => hkpick_any a.K 10 W ka (by decide) (by decide)
 have hpb := fun W => hkpick_any a.B 5 W ba (by decide) (by decide)
 have hp6 := fun W => hkpick_any a.A 6 W aa (by decide) (by decide)
 have hia := fun W => hkid_any a.A W aa
 have hib := fun W => hkid_any a.B W ba
 unfold ActD.val
 generalize a.K = K at *
 generalize a.A = A at *
 generalize a.B = Bv at *
 generalize a.n = n at *
 generalize a.f = f at *
 generalize a.vT = vT at *
 obtain ⟨W0, hW0⟩ : ∃ W0, W0 = w.alloc (.cells #[.int .i64 K, .int .i64 A, .int .i64 Bv, vT] 48) := ⟨_, rfl⟩
 have hb0 : Below w.heap.size w W0 := by rw [hW0]; exact (Below.refl _ _).alloc (Nat.le_refl _) _
 have hn0 : W0.heap[w.heap.size]? = some (.cells #[.int .i64 K, .int .i64 A, .int .i64 Bv, vT] 48 (0, 0)) := by rw [hW0]; exact alloc_new _ _
 have hs0 := hb0.size
 obtain ⟨x0, x1, x2, x3⟩ := act_cells hn0
 have hp0 := h.below hb0
 have hcr := fun q => kfork (hp0.below (below_drewN (Below.refl _ _) q)) (by show B0 ≤ W0.heap.size; omega) (pickI A 5) (pickI Bv 5) (by omega) (by omega)
 have Hcr := hide hcr
 clear hcr
 have Hpk := hide hpk
 have Hpb := hide hpb
 have Hp6 := hide hp6
 have Hia := hide hia
 have Hib := hide hib
 have Hp0 := hide hp0
 have Hb0 := hide hb0
 have Hn0 := hide hn0
 have HW0 := hide hW0
 have Hid := hide hid
 have Hot := hide hot
 clear hpk hpb hp6 hia hib hp0 hb0 hn0 hW0 h ta fa hid hot ka aa ba
 obtain ⟨v, hv⟩ : ∃ v : Nat, v = p.c.vocab := ⟨_, rfl⟩
 rw [← hv] at v1 v2 ⊢
 have Hv := hide hv
 clear hv
 all_goals
   have Hk := hide hk
   clear hk
   go_enter Try.func24, Try.ntmps24
   go_wp2_with (go_at_call 10; rw [← HW0.out]; refine Calls_use (Hpk.out _) ?_; rw [Hk.out]; clear Hpk)
   go_region_held3 (fun w' => w'.cell? ⟨w.heap.size, 1, none⟩ = some (.int .i64 A) ∧ w'.cell? ⟨w.heap.size, 2, none⟩ = some (.int .i64 Bv)) (go_keep)
     (first
       | (go_at_call 22; refine Calls_use (Hia.out _) ?_)
       | (go_at_call 22; refine Calls_use (Hib.out _) ?_)
       | (go_at_call 21; refine (Hcr.out 1).mono ?_; rintro e w2 ⟨code, rfl, hc⟩; have hkt : KeepT 48 W0 w2 := (by obtain ⟨p', _, hA, _⟩ := hc; exact hA.moves.kept _ (by unfold mutT; decide)); obtain ⟨z0, z1, z2, z3⟩ := act_cells (hkt _ _ _ Hn0.out); have Hc := hide hc; clear hc hkt))
   go_wp2
   go_ret2
   exact ⟨code, rfl, acted_back (below_drewN Hb0.out 1) Hc.out⟩
set_option maxRecDepth 100000 in
set_option maxHeartbeats 4000000 in
theorem does_free (h : HeldK B0 w p) (hB : B0 ≤ w.heap.size) (ha : a.ok w) (hk : pickI a.K 10 = 8) :
   Calls Try.prog 24 #[.pointer (some ⟨p.g.X, 0, none⟩), a.val, .int .i64 p.c.vocab] w fun e w' => ∃ code : Nat, e = .returned (.tuple #[.int .i64 code, .slice none 0 0]) ∧ FreedK B0 w p (pickI a.A 5) code w' := by
 obtain ⟨v1, v2⟩ := h.cok.vocab
 obtain ⟨ka, aa, ba, ta, fa⟩ := ha
 have hid := kpick_lt (c := a.A) (n := 5) (by decide)
 have hot := kpick_lt (c := a.B) (n := 5) (by decide)
 have hpk := fun W => hkpick_any a.K 10 W ka (by decide) (by decide)
 have hpb := fun W => hkpick_any a.B 5 W ba (by decide) (by decide)
 have hp6 := fun W => hkpick_any a.A 6 W aa (by decide) (by decide)
 have hia := fun W => hkid_any a.A W aa
 have hib := fun W => hkid_any a.B W ba
 unfold ActD.val
 generalize a.K = K at *
 generalize a.A = A at *
 generalize a.B = Bv at *
 generalize a.n = n at *
 generalize a.f = f at *
 generalize a.vT = vT at *
 obtain ⟨W0, hW0⟩ : ∃ W0, W0 = w.alloc (.cells #[.int .i64 K, .int .i64 A, .int .i64 Bv, vT] 48) := ⟨_, rfl⟩
 have hb0 : Below w.heap.size w W0 := by rw [hW0]; exact (Below.refl _ _).alloc (Nat.le_refl _) _
 have hn0 : W0.heap[w.heap.size]? = some (.cells #[.int .i64 K, .int .i64 A, .int .i64 Bv, vT] 48 (0, 0)) := by rw [hW0]; exact alloc_new _ _
 have hs0 := hb0.size
 obtain ⟨x0, x1, x2, x3⟩ := act_cells hn0
 have hp0 := h.below hb0
 have hcr := kfree hp0 (by omega) (pickI A 5) (by omega)
 have Hcr := hide hcr
 clear hcr
 have Hpk := hide hpk
 have Hpb := hide hpb
 have Hp6 := hide hp6
 have Hia := hide hia
 have Hib := hide hib
 have Hp0 := hide hp0
 have Hb0 := hide hb0
 have Hn0 := hide hn0
 have HW0 := hide hW0
 have Hid := hide hid
 have Hot := hide hot
 clear hpk hpb hp6 hia hib hp0 hb0 hn0 hW0 h ta fa hid hot ka aa ba
 obtain ⟨v, hv⟩ : ∃ v : Nat, v = p.c.vocab := ⟨_, rfl⟩
 rw [← hv] at v1 v2 ⊢
 have Hv := hide hv
 clear hv
 all_goals
   have Hk := hide hk
   clear hk
   go_enter Try.func24, Try.ntmps24
   go_wp2_with (first | (go_at_call 10; rw [← HW0.out]; refine Calls_use (Hpk.out _) ?_; rw [Hk.out]; clear Hpk) | (go_at_call 22; refine Calls_use (Hia.out _) ?_) | (go_at_call 19; refine Hcr.out.mono ?_; rintro e w2 ⟨code, rfl, hc⟩; have Hc := hide hc; clear hc))
   go_ret2
   exact ⟨code, rfl, acted_back Hb0.out Hc.out⟩
set_option maxRecDepth 100000 in
set_option maxHeartbeats 4000000 in
theorem does_evict (h : HeldK B0 w p) (hB : B0 ≤ w.heap.size) (ha : a.ok w) (hk : pickI a.K 10 = 9) :
   Calls Try.prog 24 #[.pointer (some ⟨p.g.X, 0, none⟩), a.val, .int .i64 p.c.vocab] w fun e w' => e = .returned (.tuple #[.int .i64 0, .slice none 0 0]) ∧ ∃ p', HeldK B0 w' p' ∧ ActedK w w' p p' ∧ p'.L = p.L ∧ p'.il = p.il.drop (evN (pickI a.A 6) p.il) := by
 obtain ⟨v1, v2⟩ := h.cok.vocab
 obtain ⟨ka, aa, ba, ta, fa⟩ := ha
 have hid := kpick_lt (c := a.A) (n := 5) (by decide)
 have hot := kpick_lt (c := a.B) (n := 5) (by decide)
 have hpk := fun W => hkpick_any a.K 10 W ka (by decide) (by decide)
 have hpb := fun W => hkpick_any a.B 5 W ba (by decide) (by decide)
 have hp6 := fun W => hkpick_any a.A 6 W aa (by decide) (by decide)
 have hia := fun W => hkid_any a.A W aa
 have hib := fun W => hkid_any a.B W ba
 unfold ActD.val
 generalize a.K = K at *
 generalize a.A = A at *
 generalize a.B = Bv at *
 generalize a.n = n at *
 generalize a.f = f at *
 generalize a.vT = vT at *
 obtain ⟨W0, hW0⟩ : ∃ W0, W0 = w.alloc (.cells #[.int .i64 K, .int .i64 A, .int .i64 Bv, vT] 48) := ⟨_, rfl⟩
 have hb0 : Below w.heap.size w W0 := by rw [hW0]; exact (Below.refl _ _).alloc (Nat.le_refl _) _
 have hn0 : W0.heap[w.heap.size]? = some (.cells #[.int .i64 K, .int .i64 A, .int .i64 Bv, vT] 48 (0, 0)) := by rw [hW0]; exact alloc_new _ _
 have hs0 := hb0.size
 obtain ⟨x0, x1, x2, x3⟩ := act_cells hn0
 have hp0 := h.below hb0
 have hcr := kevict hp0 (by omega) (pickI A 6)
 have Hcr := hide hcr
 clear hcr
 have Hpk := hide hpk
 have Hpb := hide hpb
 have Hp6 := hide hp6
 have Hia := hide hia
 have Hib := hide hib
 have Hp0 := hide hp0
 have Hb0 := hide hb0
 have Hn0 := hide hn0
 have HW0 := hide hW0
 have Hid := hide hid
 have Hot := hide hot
 clear hpk hpb hp6 hia hib hp0 hb0 hn0 hW0 h ta fa hid hot ka aa ba
 obtain ⟨v, hv⟩ : ∃ v : Nat, v = p.c.vocab := ⟨_, rfl⟩
 rw [← hv] at v1 v2 ⊢
 have Hv := hide hv
 clear hv
 all_goals
   have Hk := hide hk
   clear hk
   go_enter Try.func24, Try.ntmps24
   go_wp2_with (first | (go_at_call 10; rw [← HW0.out]; refine Calls_use (Hpk.out _) ?_; rw [Hk.out]; clear Hpk) | (go_at_call 10; refine Calls_use (Hp6.out _) ?_) | (go_at_call 27; refine Hcr.out.mono ?_; rintro e w2 ⟨rfl, hc⟩; have Hc := hide hc; clear hc))
   go_ret2
   exact ⟨rfl, acted_back Hb0.out Hc.out⟩
end
end Go.Proofs.Ytlmflighkkgikaa
