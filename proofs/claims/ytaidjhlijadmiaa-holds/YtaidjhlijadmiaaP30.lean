import Derived.Test.YtaidjhlijadmiaaP15
import Derived.Test.YtaidjhlijadmiaaP19
import Derived.Test.YtaidjhlijadmiaaP23
import Derived.Test.YtaidjhlijadmiaaP25
import Derived.Test.YtaidjhlijadmiaaP27
import Derived.Test.YtaidjhlijadmiaaP29

/-
  The program's hoard, but for its sequences: config, model, pool, tree; shared, neededAnew.
-/
namespace Go.Proofs.Ytaidjhlijadmiaa
open Go.RowKit
attribute [local go_sem ↓] Go.wp_at_zero Go.wp_at_succ

/-- The numbers of a hoard's parts. -/
structure Parts where
  X : Nat
  M : Nat
  PL : Nat
  FB : Nat
  SM : Nat
  cap : Nat
  vE : Value
  vH : Value
  bL : Nat
  oL : Nat
  cL : Nat

/-- The blocks of the tree. -/
def TFoot (N : List Nat → Option (Nat × Nat)) (Mm : List Nat → Option Nat) (k : Nat) : Prop := (∃ p a, N p = some a ∧ k = a.1) ∨ ∃ p, N p ≠ none ∧ Mm p = some k

structure StoreI (ok : Nat → Prop) (K : Nat) (w : World) (g : Parts) (c : Cfg) (nf : Nat) (free : Nat → Nat) (N : List Nat → Option (Nat × Nat)) (Mm : List Nat → Option Nat) (V : List Nat → Option Nat) : Prop where
  obj : ∃ arr : Array Value, w.heap[g.X]? = some (.cells arr 83 (0, 0)) ∧ arr[0]? = some (.int .i64 c.blocks) ∧ arr[1]? = some (.int .i64 c.slots) ∧ arr[2]? = some (.int .i64 c.layers) ∧ arr[5]? = some (.int .i64 c.vocab) ∧
    arr[7]? = some (.pointer (some ⟨g.M, 0, none⟩)) ∧ arr[8]? = some (.pointer (some ⟨g.PL, 0, none⟩)) ∧ arr[12]? = some (.map (some g.SM))
  model : ModelT w g.M c g.vE g.vH g.bL g.oL g.cL
  pool : PoolI w g.PL g.FB nf g.cap free
  tree : TreeI K w (TFoot N Mm) N Mm V
  root : N [] = some (g.X, 9)
  smap : ∀ p, N p ≠ none → Mm p ≠ some g.SM
  whole : ∀ p B, V p = some B → BlockI ok w B c p (p.length - c.slots) c.slots ∧ (∀ i, i < nf → free i ≠ B) ∧ c.slots ≤ p.length
  low : K + 40 * nf ≤ 2000

/-- The whole block that begins there, if there is one. -/
def wholeAt (c : Cfg) (V : List Nat → Option Nat) (T : List Nat) (from' : Nat) : Option Nat := if from' + c.slots ≤ T.length then V (T.take (from' + c.slots)) else none

set_option maxRecDepth 100000 in
set_option maxHeartbeats 1000000 in
theorem shared_any (ok : Nat → Prop) (K : Nat) (g : Parts) (c : Cfg) (hc : c.ok) (nf : Nat) (free : Nat → Nat) (N : List Nat → Option (Nat × Nat)) (Mm : List Nat → Option Nat) (V : List Nat → Option Nat) (T : List Nat) (vt : Value) (from' : Nat) (w : World)
    (h : StoreI ok K w g c nf free N Mm V) (hT : TokT w vt T) (hb : ∀ t ∈ T, t ≤ 1000) (hf : from' ≤ 1000) (hl : T.length ≤ 1000) :
    Calls Try.prog 60 #[.pointer (some ⟨g.X, 0, none⟩), vt, .int .i64 from'] w fun e w' => e = .returned (.tuple #[blkV (wholeAt c V T from'), .bool (wholeAt c V T from').isSome]) ∧ ∃ q, w' = w.drewN q := by
  obtain ⟨arr, o0, _, o2, _⟩ := h.obj
  obtain ⟨s1, s2⟩ := hc.slots
  have c1 : w.cell? ⟨g.X, 1, none⟩ = some (.int .i64 c.slots) := by rw [cell_blk o0]; exact o2
  obtain ⟨ap, cp, rfl, hp1, hp2⟩ := hT.slice
  unfold maxLen at hp2
  by_cases hfit : from' + c.slots ≤ T.length
  · have hsh : wholeAt c V T from' = V (T.take (from' + c.slots)) := by unfold wholeAt; rw [if_pos hfit]
    have htk := hT.take (from' + c.slots) hfit
    have hat := fun q => treeat_any K _ N Mm V g.X 9 (T.take (from' + c.slots)) _ (w.drewN q) ⟨h.tree.root, h.tree.node, h.tree.bare, h.tree.kids, h.tree.pre, h.tree.inj, h.tree.minj, h.tree.told, h.tree.foot, h.tree.mfoot, h.tree.kind⟩ h.root (show TokT (w.drewN q) _ _ from htk) (fun t ht => hb t (List.mem_of_mem_take ht))
    rw [← hsh] at hat
    have Hat := hide hat
    have e1 : ((from' + c.slots : Nat) : Int) = (from' : Int) + c.slots := by simp
    clear hat htk hsh
    generalize wholeAt c V T from' = S at Hat
    go_enter Try.func60, Try.ntmps60
    go_wp2
    go_quiet ((go_at_call 75; exact Calls.quiet_of (Hat.out _)))
    go_wp2
    go_ret2
    exact ⟨rfl, _, rfl⟩
  · have hsh : wholeAt c V T from' = none := by unfold wholeAt; rw [if_neg hfit]
    rw [hsh]
    go_enter Try.func60, Try.ntmps60
    go_wp2
    go_ret2
    exact ⟨rfl, 0, rfl⟩

/-- How many of the first k blocks of tokens are not there as whole ones. -/
def anewTo (c : Cfg) (V : List Nat → Option Nat) (T : List Nat) : Nat → Nat
  | 0 => 0
  | k + 1 => if (wholeAt c V T (k * c.slots)).isSome = true then anewTo c V T k else anewTo c V T k + 1

theorem anewTo_le (c : Cfg) (V : List Nat → Option Nat) (T : List Nat) (k : Nat) : anewTo c V T k ≤ k := by
  induction k with
  | zero => simp [anewTo]
  | succ k ih => simp only [anewTo]; split <;> omega

/-- How many blocks tokens take. -/
def nbOf (s n : Nat) : Nat := (n + s - 1) / s

theorem nbOf_lt {s n k : Nat} (hs : 1 ≤ s) : k < nbOf s n ↔ k * s < n := by
  unfold nbOf
  rw [Nat.lt_div_iff_mul_lt (by omega)]
  omega

theorem StoreI.drewN {ok : Nat → Prop} {K : Nat} {w : World} {g : Parts} {c : Cfg} {nf : Nat} {free : Nat → Nat} {N : List Nat → Option (Nat × Nat)} {Mm : List Nat → Option Nat} {V : List Nat → Option Nat} (h : StoreI ok K w g c nf free N Mm V) (q : Nat) : StoreI ok K (w.drewN q) g c nf free N Mm V :=
  ⟨h.obj, h.model.keep (KeepT.drewN _ _) (KeepT.drewN _ _) (KeepT.drewN _ _) (KeepT.drewN _ _), ⟨h.pool.obj, h.pool.row, h.pool.le, h.pool.cap, h.pool.blank, h.pool.inj⟩, ⟨h.tree.root, h.tree.node, h.tree.bare, h.tree.kids, h.tree.pre, h.tree.inj, h.tree.minj, h.tree.told, h.tree.foot, h.tree.mfoot, h.tree.kind⟩, h.root, h.smap, h.whole, h.low⟩

set_option maxRecDepth 100000 in
set_option maxHeartbeats 1000000 in
theorem needed_any (ok : Nat → Prop) (K : Nat) (g : Parts) (c : Cfg) (hc : c.ok) (nf : Nat) (free : Nat → Nat) (N : List Nat → Option (Nat × Nat)) (Mm : List Nat → Option Nat) (V : List Nat → Option Nat) (T : List Nat) (vt : Value) (w : World)
    (h : StoreI ok K w g c nf free N Mm V) (hT : TokT w vt T) (hb : ∀ t ∈ T, t ≤ 1000) (hl : T.length ≤ 900) :
    Calls Try.prog 34 #[.pointer (some ⟨g.X, 0, none⟩), vt] w fun e w' => e = .returned (.int .i64 (anewTo c V T (nbOf c.slots T.length))) ∧ ∃ q, w' = w.drewN q := by
  obtain ⟨arr, o0, _, o2, _⟩ := h.obj
  obtain ⟨s1, s2⟩ := hc.slots
  have c1 : w.cell? ⟨g.X, 1, none⟩ = some (.int .i64 c.slots) := by rw [cell_blk o0]; exact o2
  obtain ⟨ap, cp, rfl, hp1, hp2⟩ := hT.slice
  unfold maxLen at hp2
  have Hh := hide h
  have HT := hide hT
  clear h hT o0 o2
  go_enter Try.func34, Try.ntmps34
  go_wp2
  go_loopw [5, 6] (fun n i wr => ∃ k f : Nat, k ≤ nbOf c.slots T.length ∧ Hid (f = k * c.slots) ∧ f < T.length + c.slots ∧ i = .int .i64 f ∧ n = .int .i64 (anewTo c V T k) ∧ ∃ q, wr = w.drewN q) (fun _ i _ => T.length + c.slots - (intOf i).toNat)
  case atStart => exact ⟨0, 0, Nat.zero_le _, by show 0 = 0 * _; simp, by omega, rfl, rfl, 0, rfl⟩
  case round =>
    obtain ⟨k, f, hk, Hf, hfl, rfl, rfl, q, rfl⟩ := hrel
    have hle := anewTo_le c V T k
    have hkb : k ≤ 2000 := by
      have h1 : k * 1 ≤ k * c.slots := Nat.mul_le_mul_left _ s1
      have h2 := Hf.out
      omega
    by_cases hlt : f < T.length
    · have hk2 : k < nbOf c.slots T.length := (nbOf_lt s1).2 (by rw [← Hf.out]; exact hlt)
      have hsh := shared_any ok K g c hc nf free N Mm V T (.slice ap T.length cp) f (w.drewN q) (Hh.out.drewN q) (show TokT (w.drewN q) _ _ from HT.out) hb (by omega) (by omega)
      have hst : anewTo c V T (k + 1) = if (wholeAt c V T f).isSome = true then anewTo c V T k else anewTo c V T k + 1 := by simp only [anewTo]; rw [← Hf.out]
      have Hst := hide hst
      have Hsh := hide hsh
      clear hst hsh
      cases hS : wholeAt c V T f with
      | none =>
        rw [hS] at Hst Hsh
        go_wp2_with fail
        refine Hsh.out.mono ?_
        rintro e w1 ⟨rfl, q1, rfl⟩
        go_wp2
        go_roundw
        case rel => exact ⟨k + 1, f + c.slots, by omega, by show f + c.slots = (k + 1) * c.slots; rw [Nat.add_mul, Hf.out]; omega, by omega, by go_num, by rw [Hst.out]; simp, _, rfl⟩
        case measure => simp [intOf]; omega
      | some B =>
        rw [hS] at Hst Hsh
        go_wp2_with fail
        refine Hsh.out.mono ?_
        rintro e w1 ⟨rfl, q1, rfl⟩
        go_wp2
        go_roundw
        case rel => exact ⟨k + 1, f + c.slots, by omega, by show f + c.slots = (k + 1) * c.slots; rw [Nat.add_mul, Hf.out]; omega, by omega, by go_num, by rw [Hst.out]; simp, _, rfl⟩
        case measure => simp [intOf]; omega
    · have hke : k = nbOf c.slots T.length := by
        have : ¬ k < nbOf c.slots T.length := fun h => hlt (by rw [Hf.out]; exact (nbOf_lt s1).1 h)
        omega
      go_wp2
      go_ret
      exact ⟨ret_int (by rw [hke]), q, rfl⟩

end Go.Proofs.Ytaidjhlijadmiaa

/-
  The program's small calls: isNoToken, slices.ContainsFunc, slices.Clone, isConfig.
-/
namespace Go.Proofs.Ytaidjhlijadmiaa
open Go.RowKit
attribute [local go_sem ↓] Go.wp_at_zero Go.wp_at_succ

theorem isno_any (X : Nat) (c : Cfg) (hc : c.ok) (x : Int) (w : World) (h5 : w.cell? ⟨X, 5, none⟩ = some (.int .i64 c.vocab)) :
    Calls Try.prog 33 #[.pointer (some ⟨X, 0, none⟩), .int .i64 x] w fun e w' => e = .returned (.bool (!decide (0 ≤ x ∧ x ≤ (c.vocab : Int) - 1))) ∧ w' = w := by
  obtain ⟨v1, v2⟩ := hc.vocab
  go_enter Try.func33, Try.ntmps33
  go_wp2_with fail
  refine Calls_use (within_any _ _ _ _) ?_
  go_wp2
  go_ret
  exact ⟨ret_bool (by rw [Bool.eq_iff_iff]; simp), rfl⟩

set_option maxRecDepth 100000 in
set_option maxHeartbeats 1000000 in
theorem indexfunc_any (X n : Nat) (c : Cfg) (hc : c.ok) (vt : Value) (f : Nat → Int) (w : World) (h5 : w.cell? ⟨X, 5, none⟩ = some (.int .i64 c.vocab)) (ht : Ints w vt n f) :
    Calls Try.prog 58 #[vt, .func (.func 33) #[.pointer (some ⟨X, 0, none⟩)] #[]] w fun e w' =>
      ((∃ k : Nat, e = .returned (.int .i64 k) ∧ k < n ∧ badTok c.vocab (f k)) ∨ e = .returned (.int .i64 (-1)) ∧ (∀ j, j < n → ¬ badTok c.vocab (f j))) ∧ w' = w := by
  obtain ⟨aa, ca, rfl, ha1, ha2, ha3⟩ := ht
  unfold maxLen at ha2
  have Ha3 := hide ha3
  clear ha3
  go_enter Try.func58, Try.ntmps58
  go_wp2
  go_loop [8] (fun i => ∃ k : Nat, k ≤ n ∧ i = .int .i64 k ∧ Hid (∀ j, j < k → ¬ badTok c.vocab (f j))) (fun i => n - (intOf i).toNat)
  case atStart => exact ⟨0, Nat.zero_le _, rfl, fun j hj => absurd hj (by omega)⟩
  case round =>
    obtain ⟨k, hk, rfl, Hne⟩ := hrel
    by_cases hlt : k < n
    · obtain ⟨b1, o1, rfl, hlb1, hc1⟩ := Ha3.out (by omega)
      have c1 := hc1 k hlt
      clear hc1
      generalize hx : f k = x at c1
      have Hx := hide hx
      clear hx
      go_wp2_with fail
      refine Calls_use (isno_any X c hc x w h5) ?_
      by_cases hb : 0 ≤ x ∧ x ≤ (c.vocab : Int) - 1
      · have hd : (!decide (0 ≤ x ∧ x ≤ (c.vocab : Int) - 1)) = false := by simp [hb]
        rw [hd]
        have Hb := hide hb
        clear hb hd
        go_wp2
        go_round
        case rel =>
          refine ⟨k + 1, by omega, by go_num, fun j hj => ?_⟩
          by_cases e : j = k
          · subst e; rw [Hx.out]; have := Hb.out; unfold badTok; omega
          · exact Hne.out j (by omega)
        case measure => simp [intOf]; omega
      · have hd : (!decide (0 ≤ x ∧ x ≤ (c.vocab : Int) - 1)) = true := by simp; omega
        rw [hd]
        have Hb := hide hb
        clear hb hd
        go_wp2
        go_ret
        exact ⟨.inl ⟨k, rfl, hlt, by rw [Hx.out]; have := Hb.out; unfold badTok; omega⟩, rfl⟩
    · go_wp2
      go_ret
      exact ⟨.inr ⟨rfl, fun j hj => Hne.out j (by omega)⟩, rfl⟩

theorem containsfunc_any (X n : Nat) (c : Cfg) (hc : c.ok) (vt : Value) (f : Nat → Int) (w : World) (h5 : w.cell? ⟨X, 5, none⟩ = some (.int .i64 c.vocab)) (ht : Ints w vt n f) :
    Calls Try.prog 32 #[vt, .func (.func 33) #[.pointer (some ⟨X, 0, none⟩)] #[]] w fun e w' =>
      (e = .returned (.bool true) ∧ (∃ j, j < n ∧ badTok c.vocab (f j)) ∨ e = .returned (.bool false) ∧ (∀ j, j < n → ¬ badTok c.vocab (f j))) ∧ w' = w := by
  have hix := indexfunc_any X n c hc vt f w h5 ht
  have Hix := hide hix
  clear hix
  go_enter Try.func32, Try.ntmps32
  go_wp2_with fail
  refine Hix.out.mono ?_
  rintro e w1 ⟨⟨k, rfl, hk, hb⟩ | ⟨rfl, hn⟩, rfl⟩
  · have Hb := hide hb
    clear hb
    go_wp2
    go_ret
    exact ⟨.inl ⟨rfl, k, hk, Hb.out⟩, rfl⟩
  · have Hn := hide hn
    clear hn
    go_wp2
    go_ret
    exact ⟨.inr ⟨rfl, Hn.out⟩, rfl⟩

set_option maxRecDepth 100000 in
set_option maxHeartbeats 1000000 in
theorem isconfig_any (r : Raw) (w : World) :
    Calls Try.prog 38 #[r.agg] w fun e w' => e = .returned (.bool (@decide r.right r.dec)) ∧ Below w.heap.size w w' := by
  unfold Raw.agg
  go_enter Try.func38, Try.ntmps38
  go_wp2_with (go_at_call 59; refine Calls_use (within_any _ _ _ _) ?_)
  all_goals go_ret
  all_goals refine ⟨ret_bool ?_, (Below.refl _ _).alloc (Nat.le_refl _) _⟩
  all_goals rw [Bool.eq_iff_iff]
  all_goals simp only [decide_eq_true_eq, Bool.and_eq_true, Bool.false_eq_true, false_iff]
  all_goals unfold Raw.right
  all_goals first | omega | (simp at *; omega) | (simp at *; intros; omega)

set_option maxRecDepth 100000 in
set_option maxHeartbeats 1000000 in
theorem clone_any (n : Nat) (vt : Value) (f : Nat → Int) (w : World) (ht : IntsT w vt n f) (h1 : 1 ≤ n) (h2 : n ≤ 1000) :
    Calls Try.prog 73 #[vt] w fun e w' => ∃ r, e = .returned r ∧ w'.ownsRow w.heap.size 3 1 r n ((List.range n).map fun j => .int .i64 (f j)) ∧ Below w.heap.size w w' := by
  obtain ⟨i0, hi, hz0, hz1, hz2⟩ := info_parts Try.info_int
  have hnil := fun w a n c n' c' => Go.Lib.run_eql_slice_nil (P := Try.prog) w 36 3 a n c n' c' Try.underlying36
  have ht0 := ht
  obtain ⟨at', ct, rfl, hc1, hc2, h3⟩ := ht0
  obtain ⟨bt, ot, cur, fr, rfl, _, _⟩ := h3 (by omega)
  have hb1 : Below w.heap.size w (w.alloc (.cells #[] 3)) := (Below.refl _ _).alloc (Nat.le_refl _) _
  have Hn : Hid (IntsT (w.alloc (.cells #[] 3)) (.slice (some ⟨bt, ot, none⟩) n ct) n f) := ht.keep (KeepT.of_below hb1)
  have hown0 : (w.alloc (.cells #[] 3)).ownsRow w.heap.size 3 1 (.slice (some ⟨w.heap.size, 0, none⟩) 0 0) 0 [] := World.ownsRow_made w #[] 0 (Nat.le_refl _) (by simp [maxLen]) rfl
  go_enter Try.func73, Try.ntmps73
  go_wp2_with (at_builtin; refine wpList_append_own _ rfl _ _ 36 rfl w.heap.size 3 i0 (.int .i64 0) 1 8 Try.underlying36 hi hz0 hz1 hz2 rfl (by decide) (.slice (some ⟨w.heap.size, 0, none⟩) 0 0) 0 [] rfl hown0 ⟨bt, ot, none⟩ n ct ((List.range n).map fun i => .int .i64 (f i)) rfl (by simp) Hn.out.news (ints_one _ _) (by unfold maxLen; omega) (by omega) (by simp) ?_; intro v1 W1 hown1 hgrow1 _)
  go_ret
  refine ⟨_, rfl, by simpa using hown1, hb1.grown hgrow1 (by simp) (fun k hk => ?_)⟩
  simp [Value.ownBlock] at hk
  omega

end Go.Proofs.Ytaidjhlijadmiaa
