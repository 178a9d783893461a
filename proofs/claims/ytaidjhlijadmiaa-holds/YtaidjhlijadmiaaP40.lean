import Derived.Test.YtaidjhlijadmiaaP38
import Derived.Test.YtaidjhlijadmiaaP39

/-
  The statements' pairs: what they hold; made.
-/
namespace Go.Proofs.Ytaidjhlijadmiaa
open Go.RowKit
attribute [local go_sem ↓] Go.wp_at_zero Go.wp_at_succ

/-- A pair: where it lies, its two hoards and what they hold. -/
structure PD where
  Pb : Nat
  g : Parts
  Y : Nat
  d : Nat
  c : Cfg
  L : List (Int × List Nat)
  tl : Nat → Nat
  nt : Nat
  vL : Value
  F : Nat → Prop

/-- A pair, all of which was made since B0. -/
structure PairI (B0 : Nat) (w : World) (p : PD) : Prop where
  obj : w.heap[p.Pb]? = some (.cells #[.pointer (some ⟨p.g.X, 0, none⟩), .pointer (some ⟨p.Y, 0, none⟩)] 46 (0, 0))
  cok : p.c.ok
  held : Held (fun _ => True) w p.g p.c p.L (cntT p.tl p.L.length) p.F
  ref : RefI w p.Y p.d p.c p.L p.tl p.nt p.vL
  lo : ∀ k, p.F k → B0 ≤ k ∧ k < w.heap.size
  loY : B0 ≤ p.Y
  loL : ∀ k, p.vL.ownBlock = some k → B0 ≤ k

set_option maxRecDepth 100000 in
set_option maxHeartbeats 2000000 in
theorem made_wrong (r : Raw) (hr : ¬ r.right) (w : World) : Calls Try.prog 7 #[r.agg] w fun e w' => e = .returned (.tuple #[.pointer none, .bool true]) ∧ Below w.heap.size w w' := by
  have hnw := fun w => new_wrong r hr w
  have hri := fun w => refright_any r w
  simp only [hr, decide_false] at hri
  have Hnw := hide hnw
  have Hri := hide hri
  clear hnw hri
  unfold Raw.agg at *
  have hb1 := (Below.refl w.heap.size w).alloc (Nat.le_refl _) (.cells #[.int .i64 r.blocks, .int .i64 r.slots, .int .i64 r.layers, .int .i64 r.heads, .int .i64 r.pairs, .int .i64 r.vocab, .int .i64 r.seed] 23)
  have Hb1 := hide hb1
  have Hx0 := hide (alloc_new w (.cells #[.int .i64 r.blocks, .int .i64 r.slots, .int .i64 r.layers, .int .i64 r.heads, .int .i64 r.pairs, .int .i64 r.vocab, .int .i64 r.seed] 23))
  clear hb1
  go_enter Try.func7, Try.ntmps7
  go_wp2_with (first
    | (go_at_call 16; refine (Hnw.out _).mono ?_; rintro e w1 ⟨rfl, hb⟩; obtain ⟨y0, y1, y2, y3, y4, y5, y6⟩ := cfg_cells ((hb.block w.heap.size (by simp)).trans Hx0.out); have Hb := hide hb; clear hb)
    | (go_at_call 17; refine (Hri.out _).mono ?_; rintro e w2 ⟨rfl, hb2⟩; have Hb2 := hide hb2; clear hb2))
  go_ret2
  refine ⟨rfl, ?_⟩
  have h1 := Hb1.out.trans (Hb.out.mono (by simp))
  exact h1.trans (Hb2.out.mono h1.size)

set_option maxRecDepth 100000 in
set_option maxHeartbeats 2000000 in
theorem made_any (c : Cfg) (hc : c.ok) (r : Raw) (hr : r.right) (hrc : r.agg = cfgV c) (w : World) : Calls Try.prog 7 #[r.agg] w fun e w' => ∃ p : PD, e = .returned (.tuple #[.pointer (some ⟨p.Pb, 0, none⟩), .bool true]) ∧ p.c = c ∧ p.L = [] ∧ p.nt = 0 ∧ w.heap.size ≤ p.Pb ∧ PairI w.heap.size w' p ∧ Below w.heap.size w w' := by
  have hnw := fun w => new_any (fun _ => True) c hc r hr hrc w
  have hri := fun w => refright_any r w
  simp only [hr, decide_true] at hri
  have hrn := fun w => refnew_any c hc w
  rw [hrc] at *
  unfold cfgV at *
  have Hnw := hide hnw
  have Hri := hide hri
  have Hrn := hide hrn
  clear hnw hri hrn
  have hb1 := (Below.refl w.heap.size w).alloc (Nat.le_refl _) (.cells #[.int .i64 c.blocks, .int .i64 c.slots, .int .i64 c.layers, .int .i64 c.heads, .int .i64 c.pairs, .int .i64 c.vocab, .int .i64 c.seed] 23)
  have Hb1 := hide hb1
  have Hx0 := hide (alloc_new w (.cells #[.int .i64 c.blocks, .int .i64 c.slots, .int .i64 c.layers, .int .i64 c.heads, .int .i64 c.pairs, .int .i64 c.vocab, .int .i64 c.seed] 23))
  clear hb1
  go_enter Try.func7, Try.ntmps7
  go_wp2_with (first
    | (go_at_call 16; refine (Hnw.out _).mono ?_; rintro e w1 ⟨g, rfl, hgX, hheld, hb⟩; have x1 := (hb.block w.heap.size (by simp)).trans Hx0.out; obtain ⟨y0, y1, y2, y3, y4, y5, y6⟩ := cfg_cells x1; have Hx1 := hide x1; have Hb := hide hb; have Hheld := hide hheld; clear hb hheld x1)
    | (go_at_call 17; refine (Hri.out _).mono ?_; rintro e w2 ⟨rfl, hb2⟩; have x2 := (hb2.block w.heap.size (lt_blk Hx1.out)).trans Hx1.out; obtain ⟨z0, z1, z2, z3, z4, z5, z6⟩ := cfg_cells x2; have Hb2 := hide hb2; clear hb2 x2)
    | (go_at_call 18; refine (Hrn.out _).mono ?_; rintro e w3 ⟨Y, d, rfl, hY, href, hb3⟩; have Hb3 := hide hb3; have Href := hide href; clear hb3 href))
  go_ret2
  have h1 := Hb1.out.trans (Hb.out.mono (by simp))
  have h2 := h1.trans (Hb2.out.mono h1.size)
  have h3 := h2.trans (Hb3.out.mono h2.size)
  have hpb : Below w3.heap.size w3 (w3.alloc (.cells #[.pointer (some ⟨g.X, 0, none⟩), .pointer (some ⟨Y, 0, none⟩)] 46)) := (Below.refl _ _).alloc (Nat.le_refl _) _
  have hh2 := ((Hheld.out.below Hb2.out).below Hb3.out).below hpb
  refine ⟨⟨w3.heap.size, g, Y, d, c, [], fun _ => 0, 0, .slice none 0 0, fun k => w.heap.size ≤ k ∧ k < (w3.alloc (.cells #[.pointer (some ⟨g.X, 0, none⟩), .pointer (some ⟨Y, 0, none⟩)] 46)).heap.size⟩, rfl, rfl, rfl, rfl, h3.size, ⟨alloc_new _ _, hc, ?_, Href.out.below hpb, fun k hk => hk, Nat.le_trans h2.size hY, fun k hk => by cases hk⟩, h3.trans (hpb.mono h3.size)⟩
  exact hh2.sub (fun k hk hF => ⟨by have := h1.size; simp at hF; omega, hk⟩)

end Go.Proofs.Ytaidjhlijadmiaa
