import Derived.Test.YtaidjhlijadmiaaP18
import Derived.Test.YtaidjhlijadmiaaP37

/-
  The program's New.
-/
namespace Go.Proofs.Ytaidjhlijadmiaa
open Go.RowKit
attribute [local go_sem ↓] Go.wp_at_zero Go.wp_at_succ

theorem held_new (ok : Nat → Prop) (c : Cfg) (hc : c.ok) (w0 wZ : World) {M PL FB cap SM bL oL cL : Nat} {vE vH : Value} {free : Nat → Nat} (hb : Below w0.heap.size w0 wZ) (hM : ModelT wZ M c vE vH bL oL cL) (hP : PoolI wZ PL FB c.blocks cap free) (hMap : MapV Try.prog 3 wZ SM 0 (fun _ => none))
    (h1 : w0.heap.size ≤ PL) (h2 : w0.heap.size ≤ FB) (h3 : ∀ i, i < c.blocks → w0.heap.size ≤ free i) (h4 : w0.heap.size ≤ SM) :
    Held ok (wZ.alloc (.cells #[.int .i64 c.blocks, .int .i64 c.slots, .int .i64 c.layers, .int .i64 c.heads, .int .i64 c.pairs, .int .i64 c.vocab, .int .i64 c.seed, .pointer (some ⟨M, 0, none⟩), .pointer (some ⟨PL, 0, none⟩), .map none, .pointer none, .bool false, .map (some SM)] 83)) ⟨wZ.heap.size, M, PL, FB, SM, cap, vE, vH, bL, oL, cL⟩ c [] 0 (fun k => w0.heap.size ≤ k) := by
  obtain ⟨b1, b2⟩ := hc.blocks
  have hn := alloc_new wZ (.cells #[.int .i64 c.blocks, .int .i64 c.slots, .int .i64 c.layers, .int .i64 c.heads, .int .i64 c.pairs, .int .i64 c.vocab, .int .i64 c.seed, .pointer (some ⟨M, 0, none⟩), .pointer (some ⟨PL, 0, none⟩), .map none, .pointer none, .bool false, .map (some SM)] 83)
  generalize hwN : wZ.alloc (.cells #[.int .i64 c.blocks, .int .i64 c.slots, .int .i64 c.layers, .int .i64 c.heads, .int .i64 c.pairs, .int .i64 c.vocab, .int .i64 c.seed, .pointer (some ⟨M, 0, none⟩), .pointer (some ⟨PL, 0, none⟩), .map none, .pointer none, .bool false, .map (some SM)] 83) = wN at hn
  have hkp : ∀ e : TypeId, KeepT e wZ wN := fun e => by rw [← hwN]; exact KeepT.alloc _ _
  have hsz := hb.size
  obtain ⟨parr, r0, r⟩ := hP.row
  refine ⟨0, c.blocks, free, fun p => if p = [] then some (wZ.heap.size, 9) else none, fun _ => none, fun _ => none, fun _ => .slice none 0 0, fun _ _ => 0, ⟨⟨⟨_, hn, rfl, rfl, rfl, rfl, rfl, rfl, rfl⟩, hM.keep (hkp _) (hkp _) (hkp _) (hkp _), ⟨hkp _ _ _ _ hP.obj, ⟨parr, hkp _ _ _ _ r0, r⟩, hP.le, hP.cap, fun i hi => hkp _ _ _ _ (hP.blank i hi), hP.inj⟩, ⟨⟨_, rfl⟩, fun p a hp => ?_, fun p hp _ t => ?_, fun p b _ hm => (by cases hm), fun p t hp => ?_, fun p q a a' hp hq _ => ?_, fun p q b _ _ hm => (by cases hm), fun p hp => absurd rfl hp, fun p a hp => .inl ⟨p, a, hp, rfl⟩, fun p b _ hm => (by cases hm), fun p a arr ty fr hp hh => ?_⟩, rfl, fun p _ hm => (by cases hm), fun p B hp => (by cases hp), by show 0 + 40 * c.blocks ≤ 2000; omega⟩, ?_, fun i hi => absurd hi (by simp), fun i hi => absurd hi (by simp), fun i hi => absurd hi (by simp), fun i hi => absurd hi (by simp), fun i hi => absurd hi (by simp), fun p => ?_⟩, ?_, fun k hk => ?_⟩
  · split at hp
    · injection hp with hp; subst hp; exact ⟨_, _, hn, rfl, rfl, rfl⟩
    · cases hp
  · rw [if_neg (by simp)]
  · rw [if_neg (by simp)] at hp; exact absurd rfl hp
  · split at hp
    · rename_i e1
      split at hq
      · rename_i e2; rw [e1, e2]
      · cases hq
    · cases hp
  · split at hp
    · injection hp with hp; subst hp
      rw [hn] at hh; injection hh with hh; injection hh with _ hh _; exact .inl hh.symm
    · cases hp
  · refine MapV.keep (w := wZ) ?_ (by rw [← hwN]; exact alloc_old _ _ _ hMap.lt)
    have : seqAt [] (fun _ => Value.slice none 0 0) = fun _ => none := by funext y; rfl
    rw [this]; exact hMap
  · simp [usedOf, toksOf]
  · simp [usedOf, toksOf]
  · rcases hk with (hk | hk | hk | (⟨p, a, hp, hk⟩ | ⟨p, _, hk⟩) | ⟨i, hi, hk⟩ | ⟨p, hp⟩) | hk | ⟨i, hi, hk⟩ | ⟨i, j, hi, hj, hk⟩
    · simp at hk; omega
    · simp at hk; omega
    · simp at hk; omega
    · by_cases e : p = []
      · simp only [if_pos e] at hp; injection hp with hp; subst hp; simp at hk; omega
      · simp only [if_neg e] at hp; cases hp
    · cases hk
    · have := h3 i hi; omega
    · cases hp
    · simp at hk; omega
    · simp at hi
    · simp at hi

theorem cfg_cells {w : World} {b : Nat} {a0 a1 a2 a3 a4 a5 a6 : Value} {t : TypeId} {fr : Nat × Nat} (h : w.heap[b]? = some (.cells #[a0, a1, a2, a3, a4, a5, a6] t fr)) :
    w.cell? ⟨b, 0, none⟩ = some a0 ∧ w.cell? ⟨b, 1, none⟩ = some a1 ∧ w.cell? ⟨b, 2, none⟩ = some a2 ∧ w.cell? ⟨b, 3, none⟩ = some a3 ∧ w.cell? ⟨b, 4, none⟩ = some a4 ∧ w.cell? ⟨b, 5, none⟩ = some a5 ∧ w.cell? ⟨b, 6, none⟩ = some a6 := by
  refine ⟨?_, ?_, ?_, ?_, ?_, ?_, ?_⟩ <;> (rw [cell_blk h]; rfl)

set_option maxRecDepth 100000 in
set_option maxHeartbeats 2000000 in
theorem new_wrong (r : Raw) (hr : ¬ r.right) (w : World) : Calls Try.prog 16 #[r.agg] w fun e w' => e = .returned (.tuple #[.pointer none, .int .i64 1]) ∧ Below w.heap.size w w' := by
  have hic := fun w => isconfig_any r w
  simp only [hr, decide_false] at hic
  have Hic := hide hic
  clear hic
  unfold Raw.agg at *
  have hb1 := (Below.refl w.heap.size w).alloc (Nat.le_refl _) (.cells #[.int .i64 r.blocks, .int .i64 r.slots, .int .i64 r.layers, .int .i64 r.heads, .int .i64 r.pairs, .int .i64 r.vocab, .int .i64 r.seed] 23)
  have Hb1 := hide hb1
  clear hb1
  go_enter Try.func16, Try.ntmps16
  go_wp2_with (go_at_call 38; refine (Hic.out _).mono ?_; rintro e w1 ⟨rfl, hb⟩)
  go_ret2
  exact ⟨rfl, Hb1.out.trans (hb.mono (by simp))⟩

/-- A config as a value. -/
def cfgV (c : Cfg) : Value := .agg #[.int .i64 c.blocks, .int .i64 c.slots, .int .i64 c.layers, .int .i64 c.heads, .int .i64 c.pairs, .int .i64 c.vocab, .int .i64 c.seed]

/-- What the model, the pool and the map are, made since B. -/
def NMod (c : Cfg) (w : World) (v : Value) : Prop := ∃ M vE vH bL oL cL, v = .pointer (some ⟨M, 0, none⟩) ∧ ModelT w M c vE vH bL oL cL
def NPool (B : Nat) (c : Cfg) (w : World) (v : Value) : Prop := ∃ PL FB cap free, v = .pointer (some ⟨PL, 0, none⟩) ∧ PoolI w PL FB c.blocks cap free ∧ B ≤ PL ∧ B ≤ FB ∧ ∀ i, i < c.blocks → B ≤ free i
def NMap (B : Nat) (w : World) (v : Value) : Prop := ∃ SM, v = .map (some SM) ∧ MapV Try.prog 3 w SM 0 (fun _ => none) ∧ B ≤ SM

/-- A new hoard as a value. -/
def hoardV (c : Cfg) (v1 v2 v3 : Value) : Value := .agg #[.int .i64 c.blocks, .int .i64 c.slots, .int .i64 c.layers, .int .i64 c.heads, .int .i64 c.pairs, .int .i64 c.vocab, .int .i64 c.seed, v1, v2, .map none, .pointer none, .bool false, v3]

/-- What each operation leaves. -/
def NSpec (ok : Nat → Prop) (B : Nat) (c : Cfg) (i : Nat) (v : Value) (w : World) : Prop := match i with
  | 0 => v = cfgV c
  | 1 => v = cfgV c
  | 2 => NMod c w v
  | 3 => v = .pointer (some ⟨B, 0, none⟩)
  | 4 => v = .int .i64 c.blocks
  | 5 => NPool B c w v
  | 6 => NMap B w v
  | 7 => ∃ v1 v2 v3, v = hoardV c v1 v2 v3 ∧ NMod c w v1 ∧ NPool B c w v2 ∧ NMap B w v3
  | 8 => ∃ g, v = .pointer (some ⟨g.X, 0, none⟩) ∧ B ≤ g.X ∧ Held ok w g c [] 0 (fun k => B ≤ k)
  | 9 => ∃ g, v = .pointer (some ⟨g.X, 0, none⟩) ∧ B ≤ g.X ∧ Held ok w g c [] 0 (fun k => B ≤ k)
  | _ => v = .int .i64 0

theorem Held.below {ok : Nat → Prop} {w w' : World} {g : Parts} {c : Cfg} {L : List (Int × List Nat)} {nt : Nat} {F : Nat → Prop} (h : Held ok w g c L nt F) (hb : Below w.heap.size w w') : Held ok w' g c L nt F := by
  obtain ⟨K, nf, free, N, Mm, V, sv, blk, hI, h1, h2⟩ := h
  exact ⟨K, nf, free, N, Mm, V, sv, blk, hI.keep (fun k hk => hb.block k (hI.ltF hk)) (fun e _ => KeepT.of_below hb), h1, h2⟩

theorem NMod.below {c : Cfg} {w w' : World} {v : Value} (h : NMod c w v) (hb : Below w.heap.size w w') : NMod c w' v := by
  obtain ⟨M, vE, vH, bL, oL, cL, e, h⟩ := h
  exact ⟨M, vE, vH, bL, oL, cL, e, h.keep (KeepT.of_below hb) (KeepT.of_below hb) (KeepT.of_below hb) (KeepT.of_below hb)⟩

theorem NPool.below {B : Nat} {c : Cfg} {w w' : World} {v : Value} (h : NPool B c w v) (hb : Below w.heap.size w w') : NPool B c w' v := by
  obtain ⟨PL, FB, cap, free, e, h, r⟩ := h
  have kp : ∀ e : TypeId, KeepT e w w' := fun e => KeepT.of_below hb
  obtain ⟨arr, r0, r1, r2⟩ := h.row
  exact ⟨PL, FB, cap, free, e, ⟨kp _ _ _ _ h.obj, ⟨arr, kp _ _ _ _ r0, r1, r2⟩, h.le, h.cap, fun i hi => kp _ _ _ _ (h.blank i hi), h.inj⟩, r⟩

theorem NMap.below {B : Nat} {w w' : World} {v : Value} (h : NMap B w v) (hb : Below w.heap.size w w') : NMap B w' v := by
  obtain ⟨SM, e, h, r⟩ := h
  exact ⟨SM, e, h.keep (hb.block _ h.lt), r⟩

theorem NSpec.below {ok : Nat → Prop} {B : Nat} {c : Cfg} {i : Nat} {v : Value} {w w' : World} (h : NSpec ok B c i v w) (hb : Below w.heap.size w w') : NSpec ok B c i v w' := by
  match i, h with
  | 0, h => exact h
  | 1, h => exact h
  | 2, h => exact NMod.below h hb
  | 3, h => exact h
  | 4, h => exact h
  | 5, h => exact NPool.below h hb
  | 6, h => exact NMap.below h hb
  | 7, h => obtain ⟨v1, v2, v3, e, h1, h2, h3⟩ := h; exact ⟨v1, v2, v3, e, h1.below hb, h2.below hb, h3.below hb⟩
  | 8, h => obtain ⟨X, e, h1, h2⟩ := h; exact ⟨X, e, h1, h2.below hb⟩
  | 9, h => obtain ⟨X, e, h1, h2⟩ := h; exact ⟨X, e, h1, h2.below hb⟩
  | n + 10, h => exact h

set_option maxRecDepth 100000 in
set_option maxHeartbeats 2000000 in
theorem new_any (ok : Nat → Prop) (c : Cfg) (hc : c.ok) (r : Raw) (hr : r.right) (hrc : r.agg = cfgV c) (w : World) : Calls Try.prog 16 #[r.agg] w fun e w' => ∃ g : Parts, e = .returned (.tuple #[.pointer (some ⟨g.X, 0, none⟩), .int .i64 0]) ∧ w.heap.size ≤ g.X ∧ Held ok w' g c [] 0 (fun k => w.heap.size ≤ k) ∧ Below w.heap.size w w' := by
  obtain ⟨b1, b2⟩ := hc.blocks
  have hic := fun w => isconfig_any r w
  simp only [hr, decide_true] at hic
  rw [hrc] at *
  have hdn := dnew_any c hc
  have Hdn := hide hdn
  have hnp := fun w => newpool_any c.blocks w b1 b2
  have Hnp := hide hnp
  unfold cfgV at *
  have Hic := hide hic
  clear hic hdn hnp
  go_enter Try.func16, Try.ntmps16
  go_wp2_with (go_at_call 38; refine (Hic.out _).mono ?_; rintro e w1 ⟨rfl, hb⟩; have hb1 : Below w.heap.size w w1 := ((Below.refl w.heap.size w).alloc (Nat.le_refl _) _).trans (hb.mono (by simp)); have hs1 := hb1.size; have hs0 := hb.size; simp at hs0; have x0 := (hb.block w.heap.size (by simp)).trans (alloc_new w _); have Hx0 := hide x0; clear x0 hb)
  refine wp_region_specs0 (Spec := NSpec ok w.heap.size c) (J := fun W => Below w.heap.size w W ∧ W.heap[w.heap.size]? = some (.cells #[.int .i64 c.blocks, .int .i64 c.slots, .int .i64 c.layers, .int .i64 c.heads, .int .i64 c.pairs, .int .i64 c.vocab, .int .i64 c.seed] 23 (0, 0))) (by kernel_rfl) (by kernel_rfl) ?step ?fin ?init
  case init => exact ⟨hb1.drew, Hx0.out⟩
  case fin =>
    intro a W hF hJ hS
    obtain ⟨hB, _⟩ : Below w.heap.size w W ∧ _ := hJ
    have r9 := hS 9 _ rfl
    have r10 := hS 10 _ rfl
    obtain ⟨g, h2, h3, h4⟩ := r9
    have h2' : a.tmps[2]?.getD undef = .pointer (some ⟨g.X, 0, none⟩) := by have h := h2; simpa [valOf] using h
    have h10 : valOf a _ = Value.int .i64 0 := r10
    have h10' : a.tmps[3]?.getD undef = .int .i64 0 := by have h := h10; simpa [valOf] using h
    have Hh4 := hide h4
    clear h4 hS r10 h10 h2
    go_wp2_with fail
    refine bodyPost_ret (v := .tuple #[.pointer (some ⟨g.X, 0, none⟩), .int .i64 0]) (by simp [results, Try.results16, h2', h10']) hF.defers ⟨g, rfl, h3, Hh4.out, hB⟩
  case step =>
    intro i o ho a W hF hJ hdep K hK
    have hJ0 := hJ
    obtain ⟨hB, hx⟩ : Below w.heap.size w W ∧ W.heap[w.heap.size]? = some (.cells #[.int .i64 c.blocks, .int .i64 c.slots, .int .i64 c.layers, .int .i64 c.heads, .int .i64 c.pairs, .int .i64 c.vocab, .int .i64 c.seed] 23 (0, 0)) := hJ
    obtain ⟨y0, y1, y2, y3, y4, y5, y6⟩ := cfg_cells hx
    have hi11 : i < 11 := by have := (Array.getElem?_eq_some_iff.1 ho).1; simpa using this
    have e1 : a.eval (.tmp 1) = .pointer (some ⟨w.heap.size, 0, none⟩) := (frame_eval hF (by kernel_rfl)).trans rfl
    have e1' : a.tmps[1]?.getD undef = .pointer (some ⟨w.heap.size, 0, none⟩) := by have h := e1; simpa [Act.eval] using h
    have hJ' : ∀ W', Below W.heap.size W W' → Below w.heap.size w W' ∧ W'.heap[w.heap.size]? = some (.cells #[.int .i64 c.blocks, .int .i64 c.slots, .int .i64 c.layers, .int .i64 c.heads, .int .i64 c.pairs, .int .i64 c.vocab, .int .i64 c.seed] 23 (0, 0)) := fun W' hb => ⟨hB.trans (hb.mono hB.size), (hb.block _ (lt_blk hx)).trans hx⟩
    match i, hi11 with
    | 0, _ => exact spec_run (d := some 7) (op := .load 23 (.tmp 1)) (ty := 23) (v := cfgV c) (w' := W) ho (by kernel_rfl) (fun pos after => by simp [execOp, e1', y0, y1, y2, y3, y4, y5, y6, go_sem, cfgV]) (hK _ _ hJ0 (dst_ne ho (d := 7) (by kernel_rfl)) rfl (fun _ _ _ h => h))
    | 1, _ => exact spec_run (d := some 8) (op := .load 23 (.tmp 1)) (ty := 23) (v := cfgV c) (w' := W) ho (by kernel_rfl) (fun pos after => by simp [execOp, e1', y0, y1, y2, y3, y4, y5, y6, go_sem, cfgV]) (hK _ _ hJ0 (dst_ne ho (d := 8) (by kernel_rfl)) rfl (fun _ _ _ h => h))
    | 2, _ =>
      have q : a.eval (.tmp 8) = cfgV c := dep_at ho hdep (j := 1) (dj := 8) (by kernel_rfl) (by kernel_rfl)
      refine spec_call (d := some 9) (ty := 75) 39 Try.func39 (by kernel_rfl) (by kernel_rfl) #[.tmp 8] #[23] ho (by kernel_rfl) #[cfgV c] (by simp [q]) (R := fun v W' => NMod c W' v ∧ Below W.heap.size W W') ((Hdn.out W).mono (fun e W' ⟨M, vE, vH, bL, oL, cL, he, _, hm, hb⟩ => ⟨_, he, ⟨M, vE, vH, bL, oL, cL, rfl, hm⟩, hb⟩)) (fun v W' ⟨hm, hb⟩ => hK _ _ (hJ' W' hb) (dst_ne ho (d := 9) (by kernel_rfl)) hm (fun j u _ h => NSpec.below h hb))
    | 3, _ => exact spec_run (d := some 10) (op := .fieldAddr 23 (.tmp 1) 0) (ty := 0) (v := .pointer (some ⟨w.heap.size, 0, none⟩)) (w' := W) ho (by kernel_rfl) (fun pos after => by simp [execOp, e1', go_sem]) (hK _ _ hJ0 (dst_ne ho (d := 10) (by kernel_rfl)) rfl (fun _ _ _ h => h))
    | 4, _ =>
      have q : a.eval (.tmp 10) = .pointer (some ⟨w.heap.size, 0, none⟩) := dep_at ho hdep (j := 3) (dj := 10) (by kernel_rfl) (by kernel_rfl)
      have q' : a.tmps[10]?.getD undef = .pointer (some ⟨w.heap.size, 0, none⟩) := by have h := q; simpa [Act.eval] using h
      exact spec_run (d := some 11) (op := .load 3 (.tmp 10)) (ty := 3) (v := .int .i64 c.blocks) (w' := W) ho (by kernel_rfl) (fun pos after => by simp [execOp, q', y0, go_sem]) (hK _ _ hJ0 (dst_ne ho (d := 11) (by kernel_rfl)) rfl (fun _ _ _ h => h))
    | 5, _ =>
      have q : a.eval (.tmp 11) = .int .i64 c.blocks := dep_at ho hdep (j := 4) (dj := 11) (by kernel_rfl) (by kernel_rfl)
      refine spec_call (d := some 12) (ty := 76) 40 Try.func40 (by kernel_rfl) (by kernel_rfl) #[.tmp 11] #[3] ho (by kernel_rfl) #[.int .i64 c.blocks] (by simp [q]) (R := fun v W' => NPool w.heap.size c W' v ∧ Below W.heap.size W W') ((Hnp.out W).mono (fun e W' ⟨PL, FB, cap, free, he, hp, hb, g1, g2, g3⟩ => ⟨_, he, ⟨PL, FB, cap, free, rfl, hp, Nat.le_trans hB.size g1, Nat.le_trans hB.size g2, fun i hi => Nat.le_trans hB.size (g3 i hi)⟩, hb⟩)) (fun v W' ⟨hm, hb⟩ => hK _ _ (hJ' W' hb) (dst_ne ho (d := 12) (by kernel_rfl)) hm (fun j u _ h => NSpec.below h hb))
    | 6, _ =>
      have hb : Below W.heap.size W (W.alloc (.map #[] 0)) := (Below.refl _ _).alloc (Nat.le_refl _) _
      exact spec_run (d := some 13) (op := .makeMap 81 none) (ty := 81) (v := .map (some W.heap.size)) (w' := W.alloc (.map #[] 0)) ho (by kernel_rfl) (fun pos after => by simp [execOp, run_makeMap, go_sem]) (hK _ _ (hJ' _ hb) (dst_ne ho (d := 13) (by kernel_rfl)) ⟨_, rfl, MapV.made _ _ _, hB.size⟩ (fun j u _ h => NSpec.below h hb))
    | 7, _ =>
      have q7 : a.eval (.tmp 7) = cfgV c := dep_at ho hdep (j := 0) (dj := 7) (by kernel_rfl) (by kernel_rfl)
      have q9 : NMod c W (a.eval (.tmp 9)) := dep_at ho hdep (j := 2) (dj := 9) (by kernel_rfl) (by kernel_rfl)
      have q12 : NPool w.heap.size c W (a.eval (.tmp 12)) := dep_at ho hdep (j := 5) (dj := 12) (by kernel_rfl) (by kernel_rfl)
      have q13 : NMap w.heap.size W (a.eval (.tmp 13)) := dep_at ho hdep (j := 6) (dj := 13) (by kernel_rfl) (by kernel_rfl)
      obtain ⟨M, vE, vH, bL, oL, cL, h9, hm⟩ := q9
      obtain ⟨PL, FB, cap, free, h12, hp⟩ := q12
      obtain ⟨SM, h13, hmp⟩ := q13
      have q7' : a.tmps[7]?.getD undef = cfgV c := by have h := q7; simpa [Act.eval] using h
      have q9' : a.tmps[9]?.getD undef = .pointer (some ⟨M, 0, none⟩) := by have h := h9; simpa [Act.eval] using h
      have q12' : a.tmps[12]?.getD undef = .pointer (some ⟨PL, 0, none⟩) := by have h := h12; simpa [Act.eval] using h
      have q13' : a.tmps[13]?.getD undef = .map (some SM) := by have h := h13; simpa [Act.eval] using h
      exact spec_run (d := some 14) (op := .build 83 #[(0, .tmp 7), (1, .tmp 9), (2, .tmp 12), (4, .tmp 13)]) (ty := 83) (v := hoardV c (.pointer (some ⟨M, 0, none⟩)) (.pointer (some ⟨PL, 0, none⟩)) (.map (some SM))) (w' := W) ho (by kernel_rfl) (fun pos after => by simp [execOp, q7', q9', q12', q13', cfgV, hoardV, go_sem]) (hK _ _ hJ0 (dst_ne ho (d := 14) (by kernel_rfl)) ⟨_, _, _, rfl, ⟨M, vE, vH, bL, oL, cL, rfl, hm⟩, ⟨PL, FB, cap, free, rfl, hp⟩, ⟨SM, rfl, hmp⟩⟩ (fun _ _ _ h => h))
    | 8, _ =>
      have q14 : NSpec ok w.heap.size c 7 (a.eval (.tmp 14)) W := dep_at ho hdep (j := 7) (dj := 14) (by kernel_rfl) (by kernel_rfl)
      obtain ⟨v1, v2, v3, h14, ⟨M, vE, vH, bL, oL, cL, rfl, hm⟩, ⟨PL, FB, cap, free, rfl, hp, g1, g2, g3⟩, ⟨SM, rfl, hmp, g4⟩⟩ := q14
      have q14' : a.tmps[14]?.getD undef = hoardV c (.pointer (some ⟨M, 0, none⟩)) (.pointer (some ⟨PL, 0, none⟩)) (.map (some SM)) := by have h := h14; simpa [Act.eval] using h
      have hh := held_new ok c hc w W hB hm hp hmp g1 g2 g3 g4
      have hb : ∀ o : Obj, Below W.heap.size W (W.alloc o) := fun o => (Below.refl _ _).alloc (Nat.le_refl _) _
      exact spec_run (d := some 15) (op := .box 83 (.tmp 14)) (ty := 43) (v := .pointer (some ⟨W.heap.size, 0, none⟩)) (w' := W.alloc (.cells #[.int .i64 c.blocks, .int .i64 c.slots, .int .i64 c.layers, .int .i64 c.heads, .int .i64 c.pairs, .int .i64 c.vocab, .int .i64 c.seed, .pointer (some ⟨M, 0, none⟩), .pointer (some ⟨PL, 0, none⟩), .map none, .pointer none, .bool false, .map (some SM)] 83)) ho (by kernel_rfl) (fun pos after => by simp [execOp, q14', hoardV, go_sem]) (hK _ _ (hJ' _ (hb _)) (dst_ne ho (d := 15) (by kernel_rfl)) ⟨⟨W.heap.size, M, PL, FB, SM, cap, vE, vH, bL, oL, cL⟩, rfl, hB.size, hh⟩ (fun j u _ h => NSpec.below h (hb _)))
    | 9, _ =>
      have q15 : NSpec ok w.heap.size c 8 (a.eval (.tmp 15)) W := dep_at ho hdep (j := 8) (dj := 15) (by kernel_rfl) (by kernel_rfl)
      obtain ⟨g, h15, hX⟩ := q15
      have q15' : a.tmps[15]?.getD undef = .pointer (some ⟨g.X, 0, none⟩) := by have h := h15; simpa [Act.eval] using h
      exact spec_run (d := some 2) (op := .assign (.tmp 15)) (ty := 43) (v := .pointer (some ⟨g.X, 0, none⟩)) (w' := W) ho (by kernel_rfl) (fun pos after => by simp [execOp, q15', go_sem]) (hK _ _ hJ0 (dst_ne ho (d := 2) (by kernel_rfl)) ⟨g, rfl, hX⟩ (fun _ _ _ h => h))
    | 10, _ => exact spec_run (d := some 3) (op := .assign (.const (.int .i64 0))) (ty := 48) (v := .int .i64 0) (w' := W) ho (by kernel_rfl) (fun pos after => by simp [execOp, go_sem]) (hK _ _ hJ0 (dst_ne ho (d := 3) (by kernel_rfl)) rfl (fun _ _ _ h => h))

end Go.Proofs.Ytaidjhlijadmiaa

/-
  The program's hoard, as other calls leave it.
-/
namespace Go.Proofs.Ytaidjhlijadmiaa
open Go.RowKit

section
variable {ok ok' : Nat → Prop} {w w' : World} {B : Nat} {c : Cfg} {T : List Nat} {f k : Nat}

theorem BlockI.stays (h : BlockI ok w B c T f k) (hB : w'.heap[B]? = w.heap[B]?) (h1 : KeepT 127 w w') (h2 : KeepT 147 w w') (hk : ∀ b cur fr, ok b → w.heap[b]? = some (.cells cur 3 fr) → w'.heap[b]? = some (.cells cur 3 fr)) : BlockI ok w' B c T f k := by
  obtain ⟨v, q1, sb, sc, sa, sf, e2, q2, q3, q4, q5⟩ := h
  refine ⟨v, hB.trans q1, sb, sc, sa, sf, e2, q2, q3, h1 _ _ _ q4, fun j hj => ?_⟩
  obtain ⟨t1, cv, t2, t3⟩ := q5 j hj
  exact ⟨t1, cv, t2, t3.stays h2 hk⟩

theorem BlockI.mono (h : BlockI ok w B c T f k) (hm : ∀ b, ok b → ok' b) : BlockI ok' w B c T f k := by
  obtain ⟨v, q1, sb, sc, sa, sf, e2, q2, q3, q4, q5⟩ := h
  refine ⟨v, q1, sb, sc, sa, sf, e2, q2, q3, q4, fun j hj => ?_⟩
  obtain ⟨t1, cv, t2, t3⟩ := q5 j hj
  exact ⟨t1, cv, t2, t3.mono hm⟩

theorem BlockI.old (hw : 0 < c.width) (h : BlockI ok w B c T f k) : BlockI (fun b => b < w.heap.size) w B c T f k := by
  obtain ⟨v, q1, sb, sc, sa, sf, e2, q2, q3, q4, q5⟩ := h
  refine ⟨v, q1, sb, sc, sa, sf, e2, q2, q3, q4, fun j hj => ?_⟩
  obtain ⟨t1, cv, t2, t3⟩ := q5 j hj
  exact ⟨t1, cv, t2, t3.old hw⟩
end

section
variable {ok ok' : Nat → Prop} {K : Nat} {w w' : World} {g : Parts} {c : Cfg} {nf : Nat} {free : Nat → Nat} {N : List Nat → Option (Nat × Nat)} {Mm : List Nat → Option Nat} {V : List Nat → Option Nat} {L : List (Int × List Nat)} {sv : Nat → Value} {blk : Nat → Nat → Nat} {nt : Nat} {F : Nat → Prop}

theorem HoardI.carry (h : HoardI ok K w g c nf free N Mm V L sv blk) (hF : ∀ k, HFoot g c nf free N Mm V L sv blk k → w'.heap[k]? = w.heap[k]?) (hM : ModelT w' g.M c g.vE g.vH g.bL g.oL g.cL)
    (hB : ∀ B T f n, BlockI ok w B c T f n → w'.heap[B]? = w.heap[B]? → BlockI ok' w' B c T f n) : HoardI ok' K w' g c nf free N Mm V L sv blk := by
  obtain ⟨arr, o0, o⟩ := h.store.obj
  obtain ⟨parr, r0, r⟩ := h.store.pool.row
  have hS : ∀ k, StoreF g nf free N Mm V k → w'.heap[k]? = w.heap[k]? := fun k q => hF k (.inl q)
  refine ⟨⟨⟨arr, (hS _ (.inl rfl)).trans o0, o⟩, hM, ⟨(hS _ (.inr (.inl rfl))).trans h.store.pool.obj, ⟨parr, (hS _ (.inr (.inr (.inl rfl)))).trans r0, r⟩, h.store.pool.le, h.store.pool.cap, fun i hi => (hS _ (.inr (.inr (.inr (.inr (.inl ⟨i, hi, rfl⟩)))))).trans (h.store.pool.blank i hi), h.store.pool.inj⟩, h.store.tree.keep (fun k hk => hS k (.inr (.inr (.inr (.inl hk))))), h.store.root, h.store.smap, fun p B hp => ?_, h.store.low⟩,
    h.seqs.keep (hF _ (.inr (.inl rfl))), fun i hi => ?_, h.apart, h.used, h.len, h.toks, h.told⟩
  · obtain ⟨q1, q2, q3⟩ := h.store.whole p B hp
    exact ⟨hB _ _ _ _ q1 (hS B (.inr (.inr (.inr (.inr (.inr ⟨p, hp⟩)))))), q2, q3⟩
  · obtain ⟨⟨b, cap, arr, fr, e, q1, q2, q3, q4⟩, h3⟩ := h.seq i hi
    exact ⟨⟨b, cap, arr, fr, e, q1, q2, (hF b (.inr (.inr (.inl ⟨i, hi, by rw [e]; rfl⟩)))).trans q3, q4⟩, fun j hj => hB _ _ _ _ (h3 j hj) (hF _ (.inr (.inr (.inr ⟨i, j, hi, hj, rfl⟩))))⟩

theorem Held.mono (h : Held ok w g c L nt F) (hm : ∀ b, ok b → ok' b) : Held ok' w g c L nt F := by
  obtain ⟨K, nf, free, N, Mm, V, sv, blk, hI, h1, h2⟩ := h
  exact ⟨K, nf, free, N, Mm, V, sv, blk, hI.carry (fun _ _ => rfl) hI.store.model (fun B T f n hb _ => hb.mono hm), h1, h2⟩

theorem Held.old (hw : 0 < c.width) (h : Held ok w g c L nt F) : Held (fun b => b < w.heap.size) w g c L nt F := by
  obtain ⟨K, nf, free, N, Mm, V, sv, blk, hI, h1, h2⟩ := h
  exact ⟨K, nf, free, N, Mm, V, sv, blk, hI.carry (fun _ _ => rfl) hI.store.model (fun B T f n hb _ => hb.old hw), h1, h2⟩

theorem Held.sub {F' : Nat → Prop} (h : Held ok w g c L nt F) (hF : ∀ k, k < w.heap.size → F k → F' k) : Held ok w g c L nt F' := by
  obtain ⟨K, nf, free, N, Mm, V, sv, blk, hI, h1, h2⟩ := h
  exact ⟨K, nf, free, N, Mm, V, sv, blk, hI, h1, fun k hk => hF k (hI.ltF hk) (h2 k hk)⟩

theorem Held.model (h : Held ok w g c L nt F) : ModelT w g.M c g.vE g.vH g.bL g.oL g.cL := by
  obtain ⟨K, nf, free, N, Mm, V, sv, blk, hI, h1, h2⟩ := h
  exact hI.store.model

theorem Held.read (h : Held ok w g c L nt F) : ∃ sv blk, ReadI ok w g c L sv blk := by
  obtain ⟨K, nf, free, N, Mm, V, sv, blk, hI, h1, h2⟩ := h
  exact ⟨sv, blk, hI.read⟩

/-- Blocks were written into that are none of the hoard's: by where they lie, or by their type. -/
theorem Held.only {H : Nat → Prop} (h : Held ok w g c L nt F) (ho : Only H w w') (hH : ∀ k, k < w.heap.size → H k → ¬ F k ∨ ∃ cur e fr, w.heap[k]? = some (.cells cur e fr) ∧ ¬ mutT e) (hk : ∀ e, immT e → KeepT e w w') : Held ok w' g c L nt F := by
  obtain ⟨K, nf, free, N, Mm, V, sv, blk, hI, h1, h2⟩ := h
  refine ⟨K, nf, free, N, Mm, V, sv, blk, hI.keep (fun k hk => ho.block k (hI.ltF hk) (fun hh => ?_)) hk, h1, h2⟩
  rcases hH k (hI.ltF hk) hh with q | ⟨cur, e, fr, q1, q2⟩
  · exact q (h2 k hk)
  · exact q2 (hI.kindF hk q1)

/-- A list of integers was written over that is none of the hoard's. -/
theorem Held.over {b : Nat} (h : Held ok w g c L nt F) (hM : ModelT w' g.M c g.vE g.vH g.bL g.oL g.cL) (ho : Only (fun k => k = b) w w') (hb : ∃ cur fr, w.heap[b]? = some (.cells cur 3 fr)) (hok : ¬ ok b) : Held ok w' g c L nt F := by
  obtain ⟨K, nf, free, N, Mm, V, sv, blk, hI, h1, h2⟩ := h
  obtain ⟨cur, fr, hb⟩ := hb
  have kp : ∀ e : TypeId, e ≠ 3 → KeepT e w w' := fun e he => ho.keep (fun k cur' fr' hk hh => by
    subst hk
    rw [hb] at hh; injection hh with hh; injection hh with _ hh _; exact he hh.symm)
  refine ⟨K, nf, free, N, Mm, V, sv, blk, hI.carry (fun k hk => ho.block k (hI.ltF hk) (fun hh => ?_)) hM (fun B T f n hB hh => hB.stays hh (kp _ (by decide)) (kp _ (by decide)) (fun b' cur' fr' hb' q => ?_)), h1, h2⟩
  · subst hh
    have := hI.kindF hk hb
    rcases this with q | q | q | q | q <;> exact absurd q (by decide)
  · rw [ho.block b' (lt_blk q) (fun e => hok (e ▸ hb'))]; exact q
end

theorem RefI.keep {w w' : World} {Y d : Nat} {c : Cfg} {L : List (Int × List Nat)} {tl : Nat → Nat} {nt : Nat} {vL : Value} (h : RefI w Y d c L tl nt vL) (hY : w'.heap[Y]? = w.heap[Y]?) (hL : ∀ k, vL.ownBlock = some k → w'.heap[k]? = w.heap[k]?) (hd : KeepT 71 w w') (hi : KeepT 3 w w') : RefI w' Y d c L tl nt vL := by
  refine ⟨hY.trans h.obj, ?_, h.dec.keep hd hi, h.tails, h.many, h.len, h.toks⟩
  obtain ⟨G, ⟨h1, h2 | ⟨g, cap, cur, e', hg, hh, rest⟩⟩, h3⟩ := h.seqs
  · exact ⟨G, ⟨h1, .inl h2⟩, fun i hi' => ⟨(h3 i hi').1, (h3 i hi').2.1.keep hi, (h3 i hi').2.2⟩⟩
  · exact ⟨G, ⟨h1, .inr ⟨g, cap, cur, e', hg, (hL g (by rw [e']; rfl)).trans hh, rest⟩⟩, fun i hi' => ⟨(h3 i hi').1, (h3 i hi').2.1.keep hi, (h3 i hi').2.2⟩⟩

theorem RefI.own {w : World} {Y d : Nat} {c : Cfg} {L : List (Int × List Nat)} {tl : Nat → Nat} {nt : Nat} {vL : Value} (h : RefI w Y d c L tl nt vL) {k : Nat} (hk : vL.ownBlock = some k) : ∃ cur fr, w.heap[k]? = some (.cells cur 112 fr) := by
  obtain ⟨G, ⟨h1, ⟨h2, _⟩ | ⟨g, cap, cur, e', hg, hh, rest⟩⟩, h3⟩ := h.seqs
  · rw [h2] at hk; cases hk
  · rw [e'] at hk; injection hk with hk; subst hk; exact ⟨_, _, hh⟩

end Go.Proofs.Ytaidjhlijadmiaa
