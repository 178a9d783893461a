import Derived.BigQuiet
import Derived.Deep.QuietTactic
import Derived.Test.YtaidjhlijadmiaaP05
import Derived.Test.YtaidjhlijadmiaaP12

/-
  The program's tree by tokens.
-/
namespace Go.Proofs.Ytaidjhlijadmiaa
open Go.RowKit
attribute [local go_sem ↓] Go.wp_at_zero Go.wp_at_succ

def blkV : Option Nat → Value
  | none => .pointer none
  | some B => .pointer (some ⟨B, 0, none⟩)

def nodeV : Option (Nat × Nat) → Option Value
  | none => none
  | some a => some (.pointer (some ⟨a.1, a.2, none⟩))

/-- What lies at the keys of a node's children. -/
def kidsOf (N : List Nat → Option (Nat × Nat)) (p : List Nat) (x : Int) : Option Value := if 0 ≤ x then nodeV (N (p ++ [x.toNat])) else none

/-- The tree: N: where each path's node lies; M: its children's map; V: the block that it tells. -/
structure TreeI (K : Nat) (w : World) (F : Nat → Prop) (N : List Nat → Option (Nat × Nat)) (M : List Nat → Option Nat) (V : List Nat → Option Nat) : Prop where
  root : ∃ a, N [] = some a
  node : ∀ p a, N p = some a → ∃ (arr : Array Value) (ty : TypeId), w.heap[a.1]? = some (.cells arr ty (0, 0)) ∧ arr[a.2]? = some (.map (M p)) ∧ arr[a.2 + 1]? = some (blkV (V p)) ∧ arr[a.2 + 2]? = some (.bool (V p).isSome)
  bare : ∀ p, N p ≠ none → M p = none → ∀ t, N (p ++ [t]) = none
  kids : ∀ p b, N p ≠ none → M p = some b → ∃ cnt, cnt ≤ K ∧ MapV Try.prog 3 w b cnt (kidsOf N p)
  pre : ∀ p t, N (p ++ [t]) ≠ none → N p ≠ none
  inj : ∀ p q a a', N p = some a → N q = some a' → a.1 = a'.1 → p = q
  minj : ∀ p q b, N p ≠ none → N q ≠ none → M p = some b → M q = some b → p = q
  told : ∀ p, V p ≠ none → N p ≠ none
  foot : ∀ p a, N p = some a → F a.1
  mfoot : ∀ p b, N p ≠ none → M p = some b → F b
  kind : ∀ p a arr ty fr, N p = some a → w.heap[a.1]? = some (.cells arr ty fr) → ty = 83 ∨ ty = 80

theorem TreeI.none_on {K : Nat} {w : World} {F : Nat → Prop} {N : List Nat → Option (Nat × Nat)} {M : List Nat → Option Nat} {V : List Nat → Option Nat} (h : TreeI K w F N M V) (p q : List Nat) (hp : N p = none) : N (p ++ q) = none := by
  induction q generalizing p with
  | nil => simpa using hp
  | cons t q ih =>
    have e : p ++ t :: q = (p ++ [t]) ++ q := by simp
    rw [e]
    refine ih _ ?_
    cases hn : N (p ++ [t]) with
    | none => rfl
    | some a => exact absurd hp (h.pre p t (by rw [hn]; simp))

theorem TreeI.keep {K : Nat} {w w' : World} {F : Nat → Prop} {N : List Nat → Option (Nat × Nat)} {M : List Nat → Option Nat} {V : List Nat → Option Nat} (h : TreeI K w F N M V) (hk : ∀ k, F k → w'.heap[k]? = w.heap[k]?) : TreeI K w' F N M V :=
  ⟨h.root, fun p a hp => by rw [hk _ (h.foot p a hp)]; exact h.node p a hp, h.bare, fun p b hp hm => by
    obtain ⟨cnt, hc, hv⟩ := h.kids p b hp hm
    exact ⟨cnt, hc, hv.keep (hk _ (h.mfoot p b hp hm))⟩, h.pre, h.inj, h.minj, h.told, h.foot, h.mfoot, fun p a arr ty fr hp ha => by rw [hk _ (h.foot p a hp)] at ha; exact h.kind p a arr ty fr hp ha⟩

/-- A step that keeps hoards, nodes and the tree's maps. -/
theorem TreeI.keepT {K : Nat} {w w' : World} {F : Nat → Prop} {N : List Nat → Option (Nat × Nat)} {M : List Nat → Option Nat} {V : List Nat → Option Nat} (h : TreeI K w F N M V) (h1 : ∀ p a, N p = some a → w'.heap[a.1]? = w.heap[a.1]?) (h2 : ∀ p b, N p ≠ none → M p = some b → w'.heap[b]? = w.heap[b]?) : TreeI K w' F N M V :=
  ⟨h.root, fun p a hp => by rw [h1 p a hp]; exact h.node p a hp, h.bare, fun p b hp hm => by
    obtain ⟨cnt, hc, hv⟩ := h.kids p b hp hm
    exact ⟨cnt, hc, hv.keep (h2 p b hp hm)⟩, h.pre, h.inj, h.minj, h.told, h.foot, h.mfoot, fun p a arr ty fr hp ha => by rw [h1 p a hp] at ha; exact h.kind p a arr ty fr hp ha⟩

theorem Try.zero_node (w : World) : (zeroValue 159).run Try.prog w = .ok (.pointer none) w := by
  have h : (Try.prog.info? 159).map (fun i => i.zero) = some (some (.pointer none)) := by kernel_rfl
  cases hi : Try.prog.info? 159 with
  | none => rw [hi] at h; cases h
  | some i =>
    rw [hi] at h
    simp at h
    simp [zeroValue, typeInfo, hi, h, go_sem]

theorem int_wf (x : Int) (h1 : -9223372036854775808 ≤ x) (h2 : x ≤ 9223372036854775807) : (Lit.int .i64 x).wf = true := by
  have e1 : IntKind.i64.min = -9223372036854775808 := rfl
  have e2 : IntKind.i64.max = 9223372036854775807 := rfl
  simp [Lit.wf, e1, e2]
  omega

/-- The look-up of a child. -/
theorem TreeI.look {K : Nat} {w : World} {F : Nat → Prop} {N : List Nat → Option (Nat × Nat)} {M : List Nat → Option Nat} {V : List Nat → Option Nat} (h : TreeI K w F N M V) (p : List Nat) (hp : N p ≠ none) (t : Nat) (ht : t ≤ 1000) :
    (Instr.lookup 77 (.map (M p)) (.int .i64 t) true).run Try.prog w = .ok (.tuple #[(nodeV (N (p ++ [t]))).getD (.pointer none), .bool (N (p ++ [t])).isSome]) w := by
  have hwf : (Lit.int .i64 (t : Int)).wf = true := int_wf t (by omega) (by omega)
  cases hm : M p with
  | none =>
    rw [Maps.look_nil true (Maps.int_keyed Try.underlying3) Try.underlying77 (Try.zero_node w) (Maps.keyOf_int_mk Try.underlying3 hwf), h.bare p hp hm t]
    rfl
  | some b =>
    obtain ⟨cnt, _, hv⟩ := h.kids p b hp hm
    rw [hv.look Try.underlying3 Try.underlying77 (Try.zero_node w) t hwf]
    unfold kidsOf
    rw [if_pos (by omega), Int.toNat_natCast]
    cases N (p ++ [t]) <;> rfl

set_option maxRecDepth 100000 in
set_option maxHeartbeats 2000000 in
theorem treeat_any (K : Nat) (F : Nat → Prop) (N : List Nat → Option (Nat × Nat)) (M : List Nat → Option Nat) (V : List Nat → Option Nat) (b off : Nat) (T : List Nat) (vp : Value) (w : World) (h : TreeI K w F N M V) (hr : N [] = some (b, off)) (hT : TokT w vp T) (hb : ∀ t ∈ T, t ≤ 1000) :
    Calls Try.prog 75 #[.pointer (some ⟨b, off, none⟩), vp] w fun e w' => e = .returned (.tuple #[blkV (V T), .bool (V T).isSome]) ∧ ∃ q, w' = w.drewN q := by
  obtain ⟨ap, cp, rfl, hp1, hp2⟩ := hT.slice
  unfold maxLen at hp2
  have hcell : 0 < T.length → ∃ b off, ap = some ⟨b, off, none⟩ ∧ b < w.heap.size ∧ ∀ j, j < T.length → w.cell? ⟨b, off + j, none⟩ = some (.int .i64 (tkI T j)) := fun h0 => by
    obtain ⟨a', c', e, _, _, h3⟩ := hT.ints
    injection e with e1 _ _
    subst e1
    exact h3 h0
  have Hcell := hide hcell
  clear hcell
  go_enter Try.func75, Try.ntmps75
  go_wp2
  go_loop [0, 13] (fun t i => ∃ (k : Nat) (a : Nat × Nat), k ≤ T.length ∧ i = .int .i64 k ∧ N (T.take k) = some a ∧ t = .pointer (some ⟨a.1, a.2, none⟩)) (fun _ i => T.length - (intOf i).toNat)
  case atStart => exact ⟨0, _, Nat.zero_le _, rfl, hr, rfl⟩
  case round =>
    obtain ⟨k, a, hk, rfl, hN, rfl⟩ := hrel
    obtain ⟨arr, ty, n0, n1, n2, n3⟩ := h.node _ a hN
    have HN := hide hN
    clear hN
    obtain ⟨a1, a2⟩ := a
    simp only [] at n0 n1 n2 n3
    by_cases hlt : k < T.length
    · obtain ⟨bp, op, rfl, hbp, hc⟩ := Hcell.out (by omega)
      have ck := hc k hlt
      unfold tkI at ck
      have c0 : w.cell? ⟨a1, a2, none⟩ = some (.map (M (T.take k))) := by rw [cell_blk n0]; exact n1
      have htk : tkN T k ≤ 1000 := by
        refine hb _ ?_
        unfold tkN
        rw [List.getD_eq_getElem?_getD]
        simp [hlt]
      have hlook := h.look (T.take k) (by rw [HN.out]; simp) (tkN T k) htk
      have e1 : T.take k ++ [tkN T k] = T.take (k + 1) := by rw [take_snoc' _ 0 _ hlt]; rfl
      rw [e1] at hlook
      have He1 := hide e1
      clear hc e1
      generalize tkN T k = tk at ck hlook
      cases hn : N (T.take (k + 1)) with
      | none =>
        rw [hn] at hlook
        simp only [nodeV, Option.getD_none, Option.isSome_none] at hlook
        have hVn : V T = none := by
          have h1 : N T = none := by
            have := h.none_on (T.take (k + 1)) (T.drop (k + 1)) hn
            rwa [List.take_append_drop] at this
          cases hv : V T with
          | none => rfl
          | some B => exact absurd h1 (h.told T (by rw [hv]; simp))
        have HV := hide hVn
        clear hVn hn
        go_wp2
        go_ret2
        rw [HV.out]
        exact ⟨rfl, 0, rfl⟩
      | some a' =>
        rw [hn] at hlook
        simp only [nodeV, Option.getD_some, Option.isSome_some] at hlook
        have Hn := hide hn
        clear hn
        go_wp2
        go_round
        case rel => exact ⟨k + 1, a', by omega, by go_num, Hn.out, rfl⟩
        case measure => simp [intOf]; omega
    · have hke : k = T.length := by omega
      have hall : T.take k = T := List.take_of_length_le (by omega)
      rw [hall] at n1 n2 n3
      have c1 : w.cell? ⟨a1, a2 + 1, none⟩ = some (blkV (V T)) := by rw [cell_blk n0]; exact n2
      have c2 : w.cell? ⟨a1, a2 + 2, none⟩ = some (.bool (V T).isSome) := by rw [cell_blk n0]; exact n3
      go_wp2
      go_quiet (fail)
      go_wp2
      go_ret2
      exact ⟨rfl, _, rfl⟩

theorem snoc_inj {p q : List Nat} {a b : Nat} (h : p ++ [a] = q ++ [b]) : p = q ∧ a = b := by
  have := List.append_inj' h rfl
  simpa using this

/-- Of the nodes' blocks nothing has turned but the nodes. -/
def NodeOut (N : List Nat → Option (Nat × Nat)) (w w' : World) : Prop :=
  ∀ p a (arr : Array Value) ty, N p = some a → w.heap[a.1]? = some (.cells arr ty (0, 0)) → ∃ arr' : Array Value, w'.heap[a.1]? = some (.cells arr' ty (0, 0)) ∧ arr'.size = arr.size ∧ ∀ j, (j < a.2 ∨ a.2 + 2 < j) → arr'[j]? = arr[j]?

theorem NodeOut.refl (N : List Nat → Option (Nat × Nat)) (w : World) : NodeOut N w w := fun _ _ arr _ _ h => ⟨arr, h, rfl, fun _ _ => rfl⟩

theorem NodeOut.trans {N N' : List Nat → Option (Nat × Nat)} {w w' w'' : World} (h : NodeOut N w w') (h' : NodeOut N' w' w'') (hm : ∀ q a, N q = some a → N' q = some a) : NodeOut N w w'' := fun p a arr ty hp ha => by
  obtain ⟨arr', q1, q2, q3⟩ := h p a arr ty hp ha
  obtain ⟨arr'', r1, r2, r3⟩ := h' p a arr' ty (hm p a hp) q1
  exact ⟨arr'', r1, by omega, fun j hj => (r3 j hj).trans (q3 j hj)⟩

/-- A node that has no children yet gets a map for them. -/
theorem TreeI.addMap {K : Nat} {w : World} {F : Nat → Prop} {N : List Nat → Option (Nat × Nat)} {M : List Nat → Option Nat} {V : List Nat → Option Nat} (h : TreeI K w F N M V) (p : List Nat) (b off : Nat) (hp : N p = some (b, off)) (hm : M p = none) :
    TreeI K ((w.alloc (.map #[] 0)).setCell ⟨b, off, none⟩ (.map (some w.heap.size))) (fun k => F k ∨ w.heap.size ≤ k) N (fun q => if q = p then some w.heap.size else M q) V ∧ Only F w ((w.alloc (.map #[] 0)).setCell ⟨b, off, none⟩ (.map (some w.heap.size))) ∧ NodeOut N w ((w.alloc (.map #[] 0)).setCell ⟨b, off, none⟩ (.map (some w.heap.size))) := by
  obtain ⟨arr, ty, n0, n1, n2, n3⟩ := h.node p _ hp
  simp only [] at n0 n1 n2 n3
  have hbl := lt_blk n0
  have n0' : (w.alloc (.map #[] 0)).heap[b]? = some (.cells arr ty (0, 0)) := by rw [alloc_old _ _ _ hbl]; exact n0
  have far : ∀ k o, w.heap[k]? = some o → k ≠ b → ((w.alloc (.map #[] 0)).setCell ⟨b, off, none⟩ (.map (some w.heap.size))).heap[k]? = some o := fun k o hk hne => by
    rw [setCell_far _ _ _ _ _ hne, alloc_old _ _ _ (lt_blk hk)]; exact hk
  have mapne : ∀ mb cnt g, MapV Try.prog 3 w mb cnt g → mb ≠ b := fun mb cnt g hv e => by
    obtain ⟨es, cl, ho⟩ := hv.obj
    rw [e, n0] at ho; cases ho
  refine ⟨⟨h.root, fun q a hq => ?_, fun q hq hmq t => ?_, fun q mb hq hmq => ?_, h.pre, h.inj, fun q r mb hq hr hmq hmr => ?_, h.told, fun q a hq => .inl (h.foot q a hq), fun q mb hq hmq => ?_, fun q a arr2 ty2 fr2 hq ha => ?_⟩, ((Only.refl F w).alloc _).setCell (fun _ => h.foot p _ hp) _, fun q a arr2 ty2 hq ha => ?_⟩
  · by_cases e : q = p
    · subst e
      rw [hp] at hq
      injection hq with hq
      subst hq
      refine ⟨arr.setIfInBounds off (.map (some w.heap.size)), ty, setCell_blk n0' _ _, ?_, ?_, ?_⟩
      · have hlt := (Array.getElem?_eq_some_iff.1 n1).1
        simp [hlt]
      · rw [Array.getElem?_setIfInBounds_ne (by simp)]; exact n2
      · rw [Array.getElem?_setIfInBounds_ne (by simp)]; exact n3
    · obtain ⟨arr', ty', m0, m1, m2, m3⟩ := h.node q a hq
      have hne : a.1 ≠ b := fun e' => e (h.inj q p a (b, off) hq hp e')
      exact ⟨arr', ty', far _ _ m0 hne, by simp only [if_neg e]; exact m1, m2, m3⟩
  · by_cases e : q = p
    · simp [e] at hmq
    · simp only [if_neg e] at hmq; exact h.bare q hq hmq t
  · by_cases e : q = p
    · subst e
      simp only [if_true] at hmq
      injection hmq with hmq
      subst hmq
      refine ⟨0, Nat.zero_le _, ?_⟩
      have hv := (MapV.made Try.prog 3 w).keep (w' := (w.alloc (.map #[] 0)).setCell ⟨b, off, none⟩ (.map (some w.heap.size))) (by rw [setCell_far _ _ _ _ _ (by omega)])
      have e2 : kidsOf N q = fun _ => none := by
        funext x
        unfold kidsOf
        by_cases hx : 0 ≤ x
        · rw [if_pos hx, h.bare q hq hm]; rfl
        · rw [if_neg hx]
      rw [e2]; exact hv
    · simp only [if_neg e] at hmq
      obtain ⟨cnt, hc, hv⟩ := h.kids q mb hq hmq
      refine ⟨cnt, hc, hv.keep ?_⟩
      rw [setCell_far _ _ _ _ _ (mapne _ _ _ hv), alloc_old _ _ _ hv.lt]
  · have nof : ∀ q mb, N q ≠ none → M q = some mb → mb < w.heap.size := fun q mb hq hmq => by
      obtain ⟨_, _, hv⟩ := h.kids q mb hq hmq
      exact hv.lt
    by_cases e : q = p
    · by_cases e' : r = p
      · rw [e, e']
      · simp only [if_pos e] at hmq
        simp only [if_neg e'] at hmr
        injection hmq with hmq
        have := nof r mb hr hmr
        omega
    · by_cases e' : r = p
      · simp only [if_neg e] at hmq
        simp only [if_pos e'] at hmr
        injection hmr with hmr
        have := nof q mb hq hmq
        omega
      · simp only [if_neg e] at hmq
        simp only [if_neg e'] at hmr
        exact h.minj q r mb hq hr hmq hmr
  · by_cases e : q = p
    · simp only [if_pos e] at hmq
      injection hmq with hmq
      right; omega
    · simp only [if_neg e] at hmq
      exact .inl (h.mfoot q mb hq hmq)
  · by_cases e : q = p
    · subst e
      rw [hp] at hq
      injection hq with hq
      subst hq
      rw [setCell_blk n0'] at ha
      injection ha with ha
      injection ha with _ ha _
      rw [← ha]; exact h.kind q _ arr ty _ hp n0
    · obtain ⟨arr', ty', m0, _⟩ := h.node q a hq
      rw [far _ _ m0 (fun e' => e (h.inj q p a (b, off) hq hp e'))] at ha
      injection ha with ha
      injection ha with _ ha _
      rw [← ha]; exact h.kind q a arr' ty' _ hq m0
  · by_cases e : q = p
    · subst e
      rw [hp] at hq
      injection hq with hq
      subst hq
      simp only [] at ha
      rw [n0] at ha
      injection ha with ha
      injection ha with ha1 ha2 _
      subst ha1 ha2
      exact ⟨_, setCell_blk n0' _ _, by simp, fun j hj => Array.getElem?_setIfInBounds_ne (by simp at hj; omega)⟩
    · exact ⟨arr2, far _ _ ha (fun e' => e (h.inj q p a (b, off) hq hp e')), rfl, fun _ _ => rfl⟩

/-- A new node. -/
theorem TreeI.addNode {K : Nat} {w w' : World} {F : Nat → Prop} {N : List Nat → Option (Nat × Nat)} {M : List Nat → Option Nat} {V : List Nat → Option Nat} (h : TreeI K w F N M V) (p : List Nat) (t mb cnt : Nat) (hp : N p ≠ none) (hm : M p = some mb) (hn : N (p ++ [t]) = none) (hcnt : cnt ≤ K + 1)
    (hg : (w.alloc (.cells #[.map none, .pointer none, .bool false] 80)).grownBy w' (some mb))
    (hv : MapV Try.prog 3 w' mb cnt (fun y => if y = (t : Int) then some (.pointer (some ⟨w.heap.size, 0, none⟩)) else kidsOf N p y)) :
    TreeI (K + 1) w' (fun k => F k ∨ w.heap.size ≤ k) (fun q => if q = p ++ [t] then some (w.heap.size, 0) else N q) (fun q => if q = p ++ [t] then none else M q) V ∧ Only F w w' ∧ NodeOut N w w' := by
  have hne0 : p ≠ p ++ [t] := fun e => by have := congrArg List.length e; simp at this
  have hnone : ∀ u, N (p ++ [t] ++ [u]) = none := fun u => h.none_on _ _ hn
  have hmlt : mb < w.heap.size := by
    obtain ⟨_, _, q⟩ := h.kids p mb hp hm
    exact q.lt
  have old : ∀ k o, w.heap[k]? = some o → k ≠ mb → w'.heap[k]? = some o := fun k o hk hne => by
    rw [hg.block k (by simp; have := lt_blk hk; omega) (fun e => hne (by injection e)), alloc_old _ _ _ (lt_blk hk)]; exact hk
  have hnew : w'.heap[w.heap.size]? = some (.cells #[.map none, .pointer none, .bool false] 80 (0, 0)) := by
    rw [hg.block w.heap.size (by simp) (fun e => by injection e with e; omega)]; exact alloc_new _ _
  have cellne : ∀ b arr ty, w.heap[b]? = some (.cells arr ty (0, 0)) → b ≠ mb := fun b arr ty hb e => by
    obtain ⟨_, _, q⟩ := h.kids p mb hp hm
    obtain ⟨es, cl, ho⟩ := q.obj
    rw [e, ho] at hb; cases hb
  have hVn : V (p ++ [t]) = none := by
    cases hv : V (p ++ [t]) with
    | none => rfl
    | some B => exact absurd hn (h.told _ (by rw [hv]; simp))
  have lt_node : ∀ q a, N q = some a → a.1 < w.heap.size := fun q a hq => by
    obtain ⟨arr, ty, m0, _⟩ := h.node q a hq
    exact lt_blk m0
  refine ⟨⟨?_, fun q a hq => ?_, fun q hq hmq u => ?_, fun q b hq hmq => ?_, fun q u hq => ?_, fun q r a a' hq hr e => ?_, fun q r b hq hr hmq hmr => ?_, fun q hq => ?_, fun q a hq => ?_, fun q b hq hmq => ?_, fun q a arr2 ty2 fr2 hq ha => ?_⟩, ?_, fun q a arr2 ty2 hq ha => ⟨arr2, old _ _ ha (cellne _ _ _ ha), rfl, fun _ _ => rfl⟩⟩
  · obtain ⟨a, ha⟩ := h.root
    exact ⟨a, by rw [if_neg (fun e => by have := congrArg List.length e; simp at this)]; exact ha⟩
  · by_cases e : q = p ++ [t]
    · simp only [if_pos e] at hq ⊢
      injection hq with hq
      subst hq
      rw [e, hVn]
      exact ⟨_, _, hnew, rfl, rfl, rfl⟩
    · simp only [if_neg e] at hq ⊢
      obtain ⟨arr, ty, m0, m1, m2, m3⟩ := h.node q a hq
      exact ⟨arr, ty, old _ _ m0 (cellne _ _ _ m0), m1, m2, m3⟩
  · by_cases e : q = p ++ [t]
    · subst e
      rw [if_neg (fun e => by have := congrArg List.length e; simp at this)]
      exact hnone u
    · simp only [if_neg e] at hq hmq
      have h1 := h.bare q hq hmq u
      rw [if_neg (fun e' => by
        obtain ⟨rfl, rfl⟩ := snoc_inj e'
        rw [hm] at hmq; cases hmq)]
      exact h1
  · by_cases e : q = p ++ [t]
    · simp [e] at hmq
    · simp only [if_neg e] at hq hmq
      by_cases e2 : q = p
      · subst e2
        rw [hm] at hmq
        injection hmq with hmq
        subst hmq
        refine ⟨cnt, hcnt, ?_⟩
        have e3 : kidsOf (fun r => if r = q ++ [t] then some (w.heap.size, 0) else N r) q = fun y => if y = (t : Int) then some (.pointer (some ⟨w.heap.size, 0, none⟩)) else kidsOf N q y := by
          funext y
          unfold kidsOf
          dsimp only
          by_cases hy : y = (t : Int)
          · subst hy
            rw [if_pos (by omega), if_pos rfl, if_pos (by simp)]; rfl
          · rw [if_neg hy]
            by_cases h0 : 0 ≤ y
            · rw [if_pos h0, if_pos h0, if_neg (fun e => by
                have := (snoc_inj e).2
                omega)]
            · rw [if_neg h0, if_neg h0]
        rw [e3]; exact hv
      · obtain ⟨c0, hc0, hv0⟩ := h.kids q b hq hmq
        have hbne : b ≠ mb := fun e' => e2 (h.minj q p b hq hp hmq (by rw [e']; exact hm))
        refine ⟨c0, by omega, ?_⟩
        have e3 : kidsOf (fun r => if r = p ++ [t] then some (w.heap.size, 0) else N r) q = kidsOf N q := by
          funext y
          unfold kidsOf
          dsimp only
          rw [if_neg (fun e => e2 (snoc_inj e).1)]
        rw [e3]
        refine hv0.keep ?_
        obtain ⟨es, cl, ho⟩ := hv0.obj
        rw [ho]; exact old _ _ ho hbne
  · by_cases e : q ++ [u] = p ++ [t]
    · obtain ⟨rfl, rfl⟩ := snoc_inj e
      rw [if_neg hne0]; exact hp
    · simp only [if_neg e] at hq
      have := h.pre q u hq
      by_cases e2 : q = p ++ [t]
      · simp [e2]
      · rw [if_neg e2]; exact this
  · by_cases e1 : q = p ++ [t]
    · by_cases e2 : r = p ++ [t]
      · rw [e1, e2]
      · simp only [if_pos e1] at hq
        simp only [if_neg e2] at hr
        injection hq with hq
        have := lt_node r a' hr
        rw [← hq] at e
        simp at e
        omega
    · by_cases e2 : r = p ++ [t]
      · simp only [if_neg e1] at hq
        simp only [if_pos e2] at hr
        injection hr with hr
        have := lt_node q a hq
        rw [← hr] at e
        simp at e
        omega
      · simp only [if_neg e1] at hq
        simp only [if_neg e2] at hr
        exact h.inj q r a a' hq hr e
  · by_cases e1 : q = p ++ [t]
    · simp [e1] at hmq
    · by_cases e2 : r = p ++ [t]
      · simp [e2] at hmr
      · simp only [if_neg e1] at hq hmq
        simp only [if_neg e2] at hr hmr
        exact h.minj q r b hq hr hmq hmr
  · by_cases e : q = p ++ [t]
    · simp [e]
    · rw [if_neg e]; exact h.told q hq
  · by_cases e : q = p ++ [t]
    · simp only [if_pos e] at hq
      injection hq with hq
      subst hq
      exact .inr (Nat.le_refl _)
    · simp only [if_neg e] at hq
      exact .inl (h.foot q a hq)
  · by_cases e : q = p ++ [t]
    · simp [e] at hmq
    · simp only [if_neg e] at hq hmq
      exact .inl (h.mfoot q b hq hmq)
  · by_cases e : q = p ++ [t]
    · simp only [if_pos e] at hq
      injection hq with hq
      subst hq
      rw [hnew] at ha
      injection ha with ha
      injection ha with _ ha _
      exact .inr ha.symm
    · simp only [if_neg e] at hq
      obtain ⟨arr', ty', m0, _⟩ := h.node q a hq
      rw [old _ _ m0 (cellne _ _ _ m0)] at ha
      injection ha with ha
      injection ha with _ ha _
      rw [← ha]; exact h.kind q a arr' ty' _ hq m0
  · exact ((Only.refl F w).alloc _).grown hg (fun g hgg _ => by injection hgg with hgg; subst hgg; exact h.mfoot p _ hp hm)

end Go.Proofs.Ytaidjhlijadmiaa

/-
  The reference's lists of beginnings: in, wholes.
-/
namespace Go.Proofs.Ytaidjhlijadmiaa
open Go.RowKit
attribute [local go_sem ↓] Go.wp_at_zero Go.wp_at_succ

theorem Try.info_ints2 : (Try.prog.info? 36).map (fun i => (i.zero, i.size, i.bytes)) = some (some (.slice none 0 0), 1, 24) := by kernel_rfl

set_option maxRecDepth 100000 in
set_option maxHeartbeats 1000000 in
theorem refin_any (vl vb : Value) (l : List (List Nat)) (b : List Nat) (w : World) (hl : TokRow w vl l) (hb : TokT w vb b) (hn : l.length ≤ 100000) :
    Calls Try.prog 57 #[vl, vb] w fun e w' => ∃ r : Int, e = .returned (.int .i64 r) ∧ (b ∈ l → 0 ≤ r) ∧ (b ∉ l → r = -1) ∧ ∃ q, w' = w.drewN q := by
  obtain ⟨vs, ⟨aa, ca, rfl, ha1, _, ha3⟩, hT⟩ := hl
  have Ha3 := hide ha3
  have HT := hide hT
  clear ha3 hT
  go_enter Try.func57, Try.ntmps57
  go_wp2
  go_loopw [5] (fun i wr => ∃ k : Nat, k ≤ l.length ∧ i = .int .i64 k ∧ Hid (∀ j, j < k → l.getD j [] ≠ b) ∧ ∃ q, wr = w.drewN q) (fun i _ => l.length - (intOf i).toNat)
  case atStart => exact ⟨0, Nat.zero_le _, rfl, fun j hj => absurd hj (by omega), 0, rfl⟩
  case round =>
    obtain ⟨k, hk, rfl, Hne, q, rfl⟩ := hrel
    by_cases hlt : k < l.length
    · obtain ⟨b1, o1, rfl, hlb1, hc1⟩ := Ha3.out (by omega)
      have c1 : (w.drewN q).cell? ⟨b1, o1 + k, none⟩ = some (vs k) := hc1 k hlt
      have hTk := HT.out k hlt
      clear hc1
      go_wp2_with fail
      refine (refsame_any _ _ _ _ _ _ (w.drewN q) (by exact hTk.ints) (by exact hb.ints)).mono ?_
      rintro e w1 ⟨rfl, q1, rfl⟩
      rw [sameI_tk]
      by_cases hs : l.getD k [] = b
      · have hd : decide (l.getD k [] = b) = true := by simpa using hs
        rw [hd]
        have hm : b ∈ l := by
          rw [← hs, List.getD_eq_getElem?_getD]
          simp [hlt]
        go_wp2
        go_ret
        exact ⟨_, rfl, fun _ => by omega, fun h => absurd hm h, q + q1, rfl⟩
      · have hd : decide (l.getD k [] = b) = false := by simpa using hs
        rw [hd]
        go_wp2
        go_roundw
        case rel =>
          refine ⟨k + 1, by omega, by go_num, fun j hj => ?_, q + q1, rfl⟩
          by_cases e : j = k
          · subst e; exact hs
          · exact Hne.out j (by omega)
        case measure => simp [intOf]; omega
    · have hm : b ∉ l := by
        intro hm
        obtain ⟨j, hj, e⟩ := List.getElem_of_mem hm
        refine Hne.out j (by omega) ?_
        rw [List.getD_eq_getElem?_getD]; simp [hj, e]
      go_wp2
      go_ret
      exact ⟨_, rfl, fun h => absurd h hm, fun _ => rfl, q, rfl⟩

set_option maxRecDepth 100000 in
set_option maxHeartbeats 1000000 in
theorem refwholes_any (Y d s : Nat) (vt : Value) (T : List Nat) (w : World) (hY : w.cell? ⟨Y, 0, none⟩ = some (.pointer (some ⟨d, 0, none⟩))) (hd : w.cell? ⟨d, 1, none⟩ = some (.int .i64 s)) (hYl : Y < w.heap.size) (hdl : d < w.heap.size)
    (ht : TokT w vt T) (hs1 : 1 ≤ s) (hs2 : s ≤ 100) (hn : T.length ≤ 1000) :
    Calls Try.prog 56 #[.pointer (some ⟨Y, 0, none⟩), vt] w fun e w' => ∃ r, e = .returned r ∧ OwnToks w.heap.size w' r (wholesOf s T) ∧ Below w.heap.size w w' := by
  obtain ⟨i1, hi', hz0', hz1', hz2'⟩ := info_parts Try.info_ints2
  obtain ⟨aa, ca, rfl, hc1, hc2⟩ := ht.slice
  have HT := hide ht
  clear ht
  have hlen : T.length / s ≤ T.length := Nat.div_le_self _ _
  go_enter Try.func56, Try.ntmps56
  go_wp2
  go_loopw [5, 6] (fun o i wr => ∃ k n : Nat, k ≤ T.length / s ∧ Hid (n = (k + 1) * s) ∧ i = .int .i64 n ∧ OwnToks w.heap.size wr o ((wholesOf s T).take k) ∧ Below w.heap.size w wr) (fun _ i _ => T.length + s + 1 - (intOf i).toNat)
  case atStart => exact ⟨0, s, Nat.zero_le _, by show s = (0 + 1) * s; simp, rfl, OwnToks.nil _ _, Below.refl _ _⟩
  case round =>
    obtain ⟨k, n, hk, Hn, rfl, hown, hbel⟩ := hrel
    have hsz := hbel.size
    have r0 := (hbel.cell (p := ⟨Y, 0, none⟩) hYl).trans hY
    have r1 := (hbel.cell (p := ⟨d, 1, none⟩) hdl).trans hd
    have hkw : ((wholesOf s T).take k).length = k := by rw [List.length_take, wholesOf_len]; omega
    by_cases hlt : k < T.length / s
    · have hnT : n ≤ T.length := by
        rw [Hn.out]
        have h1 : (k + 1) * s ≤ T.length / s * s := Nat.mul_le_mul_right _ hlt
        have h2 := Nat.div_mul_le_self T.length s
        omega
      obtain ⟨vs, hown1, hvs⟩ := id hown
      rw [hkw] at hown1 hvs
      have hx : TokT wr (.slice aa n ca) (T.take n) := (HT.out.keep (KeepT.of_below hbel)).take n hnT
      have Hown := hide hown
      have Hvs := hide hvs
      clear hown hvs
      go_wp2_with (at_builtin; refine wpList_append_lies _ rfl _ _ _ rfl w.heap.size 36 i1 _ 1 24 Try.underlying62 hi' hz0' hz1' hz2' rfl (by omega) _ k _ rfl (hown1.alloc _) ⟨wr.heap.size, 0, none⟩ 1 1 [.slice aa n ca] rfl rfl (one_new wr _ _) (by intro u hu; simp at hu; subst hu; rfl) (by omega) (by unfold maxLen; omega) (by omega) (by simp; omega) (wr.heap.size + 1) (by simp) ?_; intro gg cap w1 hown2 hgrow hat hlt2; have hbel' : Below w.heap.size w w1 := (hbel.alloc hsz _).grown hgrow (by simp; omega) (fun g hg => (hown1.lt g hg).1); have y0 := (hbel'.cell (p := ⟨Y, 0, none⟩) hYl).trans hY; have y1 := (hbel'.cell (p := ⟨d, 1, none⟩) hdl).trans hd)
      have hkt : KeepT 3 wr w1 := (KeepT.alloc _ _).trans (KeepT.of_grown (hown1.alloc _) hgrow (by decide))
      have hpush : OwnToks w.heap.size w1 (.slice (some ⟨gg, 0, none⟩) (k + 1) cap) ((wholesOf s T).take (k + 1)) := by
        rw [take_snoc' _ [] _ (by rw [wholesOf_len]; exact hlt)]
        have e : (wholesOf s T).getD k [] = T.take n := by
          rw [List.getD_eq_getElem?_getD]; unfold wholesOf; simp [hlt, Hn.out]
        rw [e]
        refine Hown.out.push vs (by rw [hkw]; exact Hvs.out) (by rw [hkw]; exact hown2) hkt hx
      clear hown1 hgrow hown2
      go_roundw
      case rel => exact ⟨k + 1, n + s, by omega, by show n + s = (k + 1 + 1) * s; rw [Hn.out, Nat.add_mul (k + 1) 1 s]; omega, by go_num, hpush, hbel'⟩
      case measure => simp [intOf]; omega
    · have hnT : T.length < n := by
        have hke : k = T.length / s := by omega
        rw [Hn.out, hke]
        have := Nat.div_add_mod T.length s
        have h3 := Nat.mod_lt T.length (show 0 < s by omega)
        rw [Nat.add_mul, Nat.mul_comm (T.length / s) s]; omega
      have hall : (wholesOf s T).take k = wholesOf s T := List.take_of_length_le (by rw [wholesOf_len]; omega)
      rw [hall] at hown
      go_wp2
      go_ret
      exact ⟨_, rfl, hown, hbel⟩

end Go.Proofs.Ytaidjhlijadmiaa
