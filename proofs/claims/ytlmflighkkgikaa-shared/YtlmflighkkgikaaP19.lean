import Derived.Deep.RegionHeld3
import Derived.Test.YtlmflighkkgikaaP08
import Derived.Test.YtlmflighkkgikaaP17

namespace Go.Proofs.Ytlmflighkkgikaa
open Go.RowKit
attribute [local go_sem ↓] Go.wp_at_zero Go.wp_at_succ
structure ShapeD where
 l : Int
 h : Int
 p : Int
 v : Int
 s : Int
def kI (x : Int) : Prop := -9223372036854775808 ≤ x ∧ x ≤ 9223372036854775807
structure ShapeD.ok (s : ShapeD) : Prop where
 l : kI s.l
 h : kI s.h
 p : kI s.p
 v : kI s.v
 s : kI s.s
def kcfg (s : ShapeD) (b n : Nat) : Cfg := ⟨b, n, 1 + (pickI s.l 2).toNat, 1 + (pickI s.h 2).toNat, 1 + (pickI s.p 2).toNat, 2 + (pickI s.v 11).toNat, s.s⟩
theorem kcfg_ok {s : ShapeD} (hs : s.ok) {b n : Nat} (hb : 1 ≤ b ∧ b ≤ 32) (hn : 1 ≤ n ∧ n ≤ 4) : (kcfg s b n).ok := by
 have h1 := kpick_lt (c := s.l) (n := 2) (by decide)
 have h2 := kpick_lt (c := s.h) (n := 2) (by decide)
 have h3 := kpick_lt (c := s.p) (n := 2) (by decide)
 have h4 := kpick_lt (c := s.v) (n := 11) (by decide)
 have h5 := hs.s
 unfold kI at h5
 refine ⟨hb, hn, ?_, ?_, ?_, ?_, h5⟩ <;> (unfold kcfg; simp only []; omega)
set_option maxRecDepth 100000 in
set_option maxHeartbeats 2000000 in
theorem hkconfig_any (s : ShapeD) (hs : s.ok) (b n : Nat) (_hb : b ≤ 32) (_hn : n ≤ 4) (w : World) :
   Calls Try.prog 9 #[.agg #[.int .i64 s.l, .int .i64 s.h, .int .i64 s.p, .int .i64 s.v, .int .i64 s.s], .int .i64 b, .int .i64 n] w fun e w' => e = .returned (.agg #[.int .i64 (kcfg s b n).blocks, .int .i64 (kcfg s b n).slots, .int .i64 (kcfg s b n).layers, .int .i64 (kcfg s b n).heads, .int .i64 (kcfg s b n).pairs, .int .i64 (kcfg s b n).vocab, .int .i64 (kcfg s b n).seed]) ∧ Below w.heap.size w w' := by
 have h1 := kpick_lt (c := s.l) (n := 2) (by decide)
 have h2 := kpick_lt (c := s.h) (n := 2) (by decide)
 have h3 := kpick_lt (c := s.p) (n := 2) (by decide)
 have h4 := kpick_lt (c := s.v) (n := 11) (by decide)
 obtain ⟨q1, q2, q3, q4, q5⟩ := hs
 unfold kI at q1 q2 q3 q4 q5
 go_enter Try.func9, Try.ntmps9
 go_wp2
 go_region_held3 (fun w' => w'.cell? ⟨w.heap.size, 0, none⟩ = some (.int .i64 s.l) ∧ w'.cell? ⟨w.heap.size, 1, none⟩ = some (.int .i64 s.h) ∧ w'.cell? ⟨w.heap.size, 2, none⟩ = some (.int .i64 s.p) ∧ w'.cell? ⟨w.heap.size, 3, none⟩ = some (.int .i64 s.v) ∧ w'.cell? ⟨w.heap.size, 4, none⟩ = some (.int .i64 s.s)) (go_keep)
   (first
    | (go_at_call 10; refine Calls_use (hkpick_any _ _ _ q1 (by decide) (by decide)) ?_)
    | (go_at_call 10; refine Calls_use (hkpick_any _ _ _ q2 (by decide) (by decide)) ?_)
    | (go_at_call 10; refine Calls_use (hkpick_any _ _ _ q3 (by decide) (by decide)) ?_)
    | (go_at_call 10; refine Calls_use (hkpick_any _ _ _ q4 (by decide) (by decide)) ?_))
 go_wp2
 have e1 : IntKind.i64.wrap (1 + pickI s.l 2) = ((kcfg s b n).layers : Int) := by rw [wrap_in (by omega) (by omega)]; unfold kcfg; simp only []; omega
 have e2 : IntKind.i64.wrap (1 + pickI s.h 2) = ((kcfg s b n).heads : Int) := by rw [wrap_in (by omega) (by omega)]; unfold kcfg; simp only []; omega
 have e3 : IntKind.i64.wrap (1 + pickI s.p 2) = ((kcfg s b n).pairs : Int) := by rw [wrap_in (by omega) (by omega)]; unfold kcfg; simp only []; omega
 have e4 : IntKind.i64.wrap (2 + pickI s.v 11) = ((kcfg s b n).vocab : Int) := by rw [wrap_in (by omega) (by omega)]; unfold kcfg; simp only []; omega
 rw [e1, e2, e3, e4]
 clear e1 e2 e3 e4
 obtain ⟨W, hW⟩ : ∃ W, W = ((w.alloc (.cells #[.int .i64 s.l, .int .i64 s.h, .int .i64 s.p, .int .i64 s.v, .int .i64 s.s] 23)).alloc (.cells #[.int .i64 b, .int .i64 n, .int .i64 (kcfg s b n).layers, .int .i64 (kcfg s b n).heads, .int .i64 (kcfg s b n).pairs, .int .i64 (kcfg s b n).vocab, .int .i64 s.s] 26)).drew := ⟨_, rfl⟩
 rw [← hW]
 have hb' : Below w.heap.size w W := by rw [hW]; exact (((Below.refl _ _).alloc (Nat.le_refl _) _).alloc (by simp) _).drew
 have hn : W.heap[w.heap.size + 1]? = some (.cells #[.int .i64 b, .int .i64 n, .int .i64 (kcfg s b n).layers, .int .i64 (kcfg s b n).heads, .int .i64 (kcfg s b n).pairs, .int .i64 (kcfg s b n).vocab, .int .i64 s.s] 26 (0, 0)) := by
   rw [hW]
   have := alloc_new (w.alloc (.cells #[.int .i64 s.l, .int .i64 s.h, .int .i64 s.p, .int .i64 s.v, .int .i64 s.s] 23)) (.cells #[.int .i64 b, .int .i64 n, .int .i64 (kcfg s b n).layers, .int .i64 (kcfg s b n).heads, .int .i64 (kcfg s b n).pairs, .int .i64 (kcfg s b n).vocab, .int .i64 s.s] 26)
   rw [show (w.alloc (.cells #[.int .i64 s.l, .int .i64 s.h, .int .i64 s.p, .int .i64 s.v, .int .i64 s.s] 23)).heap.size = w.heap.size + 1 by simp] at this
   exact this
 have r0 : W.cell? ⟨w.heap.size + 1, 0, none⟩ = some (.int .i64 b) := by rw [cell_blk hn]; rfl
 have r1 : W.cell? ⟨w.heap.size + 1, 1, none⟩ = some (.int .i64 n) := by rw [cell_blk hn]; rfl
 have r2 : W.cell? ⟨w.heap.size + 1, 2, none⟩ = some (.int .i64 (kcfg s b n).layers) := by rw [cell_blk hn]; rfl
 have r3 : W.cell? ⟨w.heap.size + 1, 3, none⟩ = some (.int .i64 (kcfg s b n).heads) := by rw [cell_blk hn]; rfl
 have r4 : W.cell? ⟨w.heap.size + 1, 4, none⟩ = some (.int .i64 (kcfg s b n).pairs) := by rw [cell_blk hn]; rfl
 have r5 : W.cell? ⟨w.heap.size + 1, 5, none⟩ = some (.int .i64 (kcfg s b n).vocab) := by rw [cell_blk hn]; rfl
 have r6 : W.cell? ⟨w.heap.size + 1, 6, none⟩ = some (.int .i64 s.s) := by rw [cell_blk hn]; rfl
 clear hW
 refine bodyPost_ret (v := .agg #[.int .i64 b, .int .i64 n, .int .i64 (kcfg s b n).layers, .int .i64 (kcfg s b n).heads, .int .i64 (kcfg s b n).pairs, .int .i64 (kcfg s b n).vocab, .int .i64 s.s]) ?_ rfl ⟨rfl, hb'⟩
 simp [results, Try.results9, go_sem, r0, r1, r2, r3, r4, r5, r6]
end Go.Proofs.Ytlmflighkkgikaa
