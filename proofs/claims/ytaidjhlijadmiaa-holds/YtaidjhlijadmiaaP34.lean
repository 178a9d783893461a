import Derived.Test.YtaidjhlijadmiaaP31
import Derived.Test.YtaidjhlijadmiaaP33

/-
  The program's hoard takes a block and fills it.
-/
namespace Go.Proofs.Ytaidjhlijadmiaa
open Go.RowKit
attribute [local go_sem ↓] Go.wp_at_zero Go.wp_at_succ

/-- The types of blocks that the hoard looks at and that no call of it writes into, once they are made. -/
def immT (e : TypeId) : Prop := e = 127 ∨ e = 147 ∨ e = 3 ∨ e = 36 ∨ e = 135 ∨ e = 137

theorem immT.ne {e : TypeId} (h : immT e) : e ≠ 83 ∧ e ≠ 120 ∧ e ≠ 78 ∧ e ≠ 90 ∧ e ≠ 80 := by
  rcases h with rfl | rfl | rfl | rfl | rfl | rfl <;> decide

theorem BlockI.keep {ok : Nat → Prop} {w w' : World} {B : Nat} {c : Cfg} {T : List Nat} {f k : Nat} (h : BlockI ok w B c T f k) (hB : w'.heap[B]? = w.heap[B]?) (hk : ∀ e, immT e → KeepT e w w') : BlockI ok w' B c T f k := by
  obtain ⟨v, q1, sb, sc, sa, sf, e2, q2, q3, q4, q5⟩ := h
  refine ⟨v, hB.trans q1, sb, sc, sa, sf, e2, q2, q3, hk _ (by unfold immT; decide) _ _ _ q4, fun j hj => ?_⟩
  obtain ⟨t1, cv, t2, t3⟩ := q5 j hj
  exact ⟨t1, cv, t2, t3.keep (hk _ (by unfold immT; decide)) (hk _ (by unfold immT; decide))⟩

theorem BlockI.congr {ok : Nat → Prop} {w : World} {B : Nat} {c : Cfg} {T U : List Nat} {f k : Nat} (h : BlockI ok w B c T f k) (he : ∀ j, j < f + k → tkN T j = tkN U j) : BlockI ok w B c U f k := by
  obtain ⟨v, q1, sb, sc, sa, sf, e2, q2, q3, q4, q5⟩ := h
  refine ⟨v, q1, sb, sc, sa, sf, e2, q2, q3, q4, fun j hj => ?_⟩
  obtain ⟨t1, cv, t2, t3⟩ := q5 j hj
  obtain ⟨k1, k2⟩ := kOf_congr c (f + j) (fun i hi => he i (by omega))
  refine ⟨by rw [t1]; unfold tkI; rw [he (f + j) (by omega)], cv, t2, ?_⟩
  rw [← k1, ← k2]; exact t3

theorem BlockI.ty {ok : Nat → Prop} {w : World} {B : Nat} {c : Cfg} {T : List Nat} {f k : Nat} (h : BlockI ok w B c T f k) : ∃ v, w.heap[B]? = some (.cells #[v] 90 (0, 0)) := by
  obtain ⟨v, q1, _⟩ := h
  exact ⟨v, q1⟩

theorem blk_ne {w : World} {a b : Nat} {x y : Array Value} {s t : TypeId} {f f' : Nat × Nat} (ha : w.heap[a]? = some (.cells x s f)) (hb : w.heap[b]? = some (.cells y t f')) (h : s ≠ t) : a ≠ b := fun e => by
  subst e
  rw [ha] at hb
  injection hb with hb
  injection hb with _ hb _
  exact h hb

/-- What fill may write into. -/
def FillF (g : Parts) (B : Nat) (N : List Nat → Option (Nat × Nat)) (Mm : List Nat → Option Nat) (k : Nat) : Prop := k = g.PL ∨ k = g.FB ∨ k = B ∨ TFoot N Mm k

section
variable {ok : Nat → Prop} {K : Nat} {w w' : World} {g : Parts} {c : Cfg} {nf : Nat} {free : Nat → Nat} {N : List Nat → Option (Nat × Nat)} {Mm : List Nat → Option Nat} {V : List Nat → Option Nat}

theorem TreeI.foot_ty {F : Nat → Prop} (h : TreeI K w F N Mm V) {k : Nat} (hk : TFoot N Mm k) {cur : Array Value} {e : TypeId} {fr : Nat × Nat} (hh : w.heap[k]? = some (.cells cur e fr)) : e = 83 ∨ e = 80 := by
  rcases hk with ⟨p, a, hp, rfl⟩ | ⟨p, hp, hm⟩
  · exact h.kind p a cur e fr hp hh
  · obtain ⟨cnt, _, hv⟩ := h.kids p k hp hm
    obtain ⟨es, cl, ho⟩ := hv.obj
    rw [ho] at hh; cases hh

theorem TreeI.foot_ne {F : Nat → Prop} (h : TreeI K w F N Mm V) {k b : Nat} (hk : TFoot N Mm k) {cur : Array Value} {e : TypeId} {fr : Nat × Nat} (hh : w.heap[b]? = some (.cells cur e fr)) (h1 : e ≠ 83) (h2 : e ≠ 80) : b ≠ k := fun e' => by
  subst e'
  rcases h.foot_ty hk hh with q | q
  · exact h1 q
  · exact h2 q

theorem StoreI.keepF (h : StoreI ok K w g c (nf + 1) free N Mm V) (ho : Only (FillF g (free nf) N Mm) w w') : ∀ e, immT e → KeepT e w w' := fun e he => ho.keep (fun k cur fr hk hh => by
  obtain ⟨h1, h2, h3, h4, h5⟩ := he.ne
  obtain ⟨arr, r0, _⟩ := h.pool.row
  rcases hk with rfl | rfl | rfl | hk
  · rw [h.pool.obj] at hh; injection hh with hh; injection hh with _ hh _; exact h2 hh.symm
  · rw [r0] at hh; injection hh with hh; injection hh with _ hh _; exact h3 hh.symm
  · rw [h.pool.blank nf (by omega)] at hh; injection hh with hh; injection hh with _ hh _; exact h4 hh.symm
  · rcases h.tree.foot_ty hk hh with q | q
    · exact h1 q
    · exact h5 q)

theorem PoolI.below (h : PoolI w g.PL g.FB nf g.cap free) (hb : Below w.heap.size w w') : PoolI w' g.PL g.FB nf g.cap free := by
  have kp : ∀ e : TypeId, KeepT e w w' := fun e => KeepT.of_below hb
  obtain ⟨arr, r0, r1, r2⟩ := h.row
  exact ⟨kp _ _ _ _ h.obj, ⟨arr, kp _ _ _ _ r0, r1, r2⟩, h.le, h.cap, fun i hi => kp _ _ _ _ (h.blank i hi), h.inj⟩

theorem TFoot.lt {F : Nat → Prop} (h : TreeI K w F N Mm V) {k : Nat} (hk : TFoot N Mm k) : k < w.heap.size := by
  rcases hk with ⟨p, a, hp, rfl⟩ | ⟨p, hp, hm⟩
  · obtain ⟨arr, ty, n0, _⟩ := h.node p a hp
    exact lt_blk n0
  · obtain ⟨cnt, _, hv⟩ := h.kids p k hp hm
    exact hv.lt

theorem StoreI.below (h : StoreI ok K w g c nf free N Mm V) (hb : Below w.heap.size w w') : StoreI ok K w' g c nf free N Mm V := by
  have kp : ∀ e : TypeId, KeepT e w w' := fun e => KeepT.of_below hb
  obtain ⟨arr, o0, o⟩ := h.obj
  refine ⟨⟨arr, kp _ _ _ _ o0, o⟩, h.model.keep (kp _) (kp _) (kp _) (kp _), h.pool.below hb, h.tree.keep (fun k hk => hb.block k (TFoot.lt h.tree hk)), h.root, h.smap, fun p B hp => ?_, h.low⟩
  obtain ⟨q1, q2, q3⟩ := h.whole p B hp
  obtain ⟨v, q4⟩ := q1.ty
  exact ⟨q1.keep (hb.block B (lt_blk q4)) (fun e _ => kp e), q2, q3⟩

theorem StoreI.heap (h : StoreI ok K w g c nf free N Mm V) (hW : w'.heap = w.heap) : StoreI ok K w' g c nf free N Mm V := by
  have kp : ∀ e : TypeId, KeepT e w w' := fun e k cur fr hk => by rw [hW]; exact hk
  obtain ⟨arr, o0, o⟩ := h.obj
  obtain ⟨parr, r0, r⟩ := h.pool.row
  refine ⟨⟨arr, kp _ _ _ _ o0, o⟩, h.model.keep (kp _) (kp _) (kp _) (kp _), ⟨kp _ _ _ _ h.pool.obj, ⟨parr, kp _ _ _ _ r0, r⟩, h.pool.le, h.pool.cap, fun i hi => kp _ _ _ _ (h.pool.blank i hi), h.pool.inj⟩, h.tree.keep (fun k hk => by rw [hW]), h.root, h.smap, fun p B hp => ?_, h.low⟩
  obtain ⟨q1, q2, q3⟩ := h.whole p B hp
  exact ⟨q1.keep (by rw [hW]) (fun e _ => kp e), q2, q3⟩

/-- A block is taken, and something is laid into it. -/
theorem StoreI.took (h : StoreI ok K w g c (nf + 1) free N Mm V) (ho : Only (fun k => k = g.PL ∨ k = g.FB ∨ k = free nf) w w') (hp : PoolI w' g.PL g.FB nf g.cap free) : StoreI ok K w' g c nf free N Mm V := by
  have ho' : Only (FillF g (free nf) N Mm) w w' := ho.mono (fun k _ hk => by
    rcases hk with hk | hk | hk
    · exact .inl hk
    · exact .inr (.inl hk)
    · exact .inr (.inr (.inl hk)))
  have kp := h.keepF ho'
  obtain ⟨arr, o0, o⟩ := h.obj
  obtain ⟨parr, r0, _⟩ := h.pool.row
  have hbk := h.pool.blank nf (by omega)
  have far : ∀ k cur e fr, w.heap[k]? = some (Obj.cells cur e fr) → e ≠ 120 → e ≠ 78 → k ≠ free nf → w'.heap[k]? = w.heap[k]? := fun k cur e fr hk h1 h2 h3 =>
    ho.block k (lt_blk hk) (fun hh => by
      rcases hh with hh | hh | hh
      · exact blk_ne hk h.pool.obj h1 hh
      · exact blk_ne hk r0 h2 hh
      · exact h3 hh)
  have foot : ∀ k, TFoot N Mm k → w'.heap[k]? = w.heap[k]? := fun k hk => ho.block k (TFoot.lt h.tree hk) (fun hh => by
      rcases hh with hh | hh | hh
      · exact h.tree.foot_ne hk h.pool.obj (by decide) (by decide) hh.symm
      · exact h.tree.foot_ne hk r0 (by decide) (by decide) hh.symm
      · exact h.tree.foot_ne hk hbk (by decide) (by decide) hh.symm)
  refine ⟨⟨arr, (far _ _ _ _ o0 (by decide) (by decide) (blk_ne o0 hbk (by decide))).trans o0, o⟩, h.model.keep (kp _ (by unfold immT; decide)) (kp _ (by unfold immT; decide)) (kp _ (by unfold immT; decide)) (kp _ (by unfold immT; decide)), hp, h.tree.keep foot, h.root, h.smap, fun p B hp' => ?_, by have := h.low; omega⟩
  obtain ⟨q1, q2, q3⟩ := h.whole p B hp'
  obtain ⟨v, q4⟩ := q1.ty
  exact ⟨q1.keep (far _ _ _ _ q4 (by decide) (by decide) (fun e => q2 nf (by omega) e.symm)) kp, fun i hi => q2 i (by omega), q3⟩

/-- A whole block is told by the tree. -/
theorem StoreI.put {N' : List Nat → Option (Nat × Nat)} {p : List Nat} {B : Nat} (h : StoreI ok K w g c nf free N Mm V) (hm : TreeMore (K + p.length) w w' (TFoot N Mm) N N' (fun q => if q = p then some B else V q)) (hSM : ∃ es cl, w.heap[g.SM]? = some (.map es cl)) (hB : BlockI ok w B c p (p.length - c.slots) c.slots) (hfr : ∀ i, i < nf → free i ≠ B) (hp : c.slots ≤ p.length) (hlow : K + p.length + 40 * nf ≤ 2000) :
    ∃ Mm', StoreI ok (K + p.length) w' g c nf free N' Mm' (fun q => if q = p then some B else V q) ∧ BlockI ok w' B c p (p.length - c.slots) c.slots ∧ (∀ k, TFoot N' Mm' k → TFoot N Mm k ∨ w.heap.size ≤ k) := by
  obtain ⟨⟨Mm', ht⟩, ho, hmore, hout⟩ := hm
  obtain ⟨arr, o0, o1, o2, o3, o4, o5, o6, o7⟩ := h.obj
  obtain ⟨arr', n0, n1, n2⟩ := hout [] (g.X, 9) arr _ h.root o0
  obtain ⟨parr, r0, r⟩ := h.pool.row
  have far : ∀ k cur e fr, w.heap[k]? = some (Obj.cells cur e fr) → e ≠ 83 → e ≠ 80 → w'.heap[k]? = w.heap[k]? := fun k cur e fr hk h1 h2 =>
    ho.block k (lt_blk hk) (fun hh => h.tree.foot_ne hh hk h1 h2 rfl)
  have kp : ∀ e, immT e → KeepT e w w' := fun e he k cur fr hk => (far k cur e fr hk he.ne.1 he.ne.2.2.2.2).trans hk
  have bk : ∀ {B : Nat} {p : List Nat} {f n : Nat}, BlockI ok w B c p f n → BlockI ok w' B c p f n := fun {B p f n} hb => by
    obtain ⟨v, q4⟩ := hb.ty
    exact hb.keep (far _ _ _ _ q4 (by decide) (by decide)) kp
  have hfoot : ∀ k, TFoot N' Mm' k → TFoot N Mm k ∨ w.heap.size ≤ k := fun k hk => by
    rcases hk with ⟨q, a, hq, rfl⟩ | ⟨q, hq, hm⟩
    · exact ht.foot q a hq
    · exact ht.mfoot q k hq hm
  have hsz : g.SM < w.heap.size := by obtain ⟨es, cl, e⟩ := hSM; exact lt_blk e
  refine ⟨Mm', ⟨⟨arr', n0, ?_, ?_, ?_, ?_, ?_, ?_, ?_⟩, h.model.keep (kp _ (by unfold immT; decide)) (kp _ (by unfold immT; decide)) (kp _ (by unfold immT; decide)) (kp _ (by unfold immT; decide)), ⟨(far _ _ _ _ h.pool.obj (by decide) (by decide)).trans h.pool.obj, ⟨parr, (far _ _ _ _ r0 (by decide) (by decide)).trans r0, r⟩, h.pool.le, h.pool.cap, fun i hi => (far _ _ _ _ (h.pool.blank i hi) (by decide) (by decide)).trans (h.pool.blank i hi), h.pool.inj⟩,
    ⟨ht.root, ht.node, ht.bare, ht.kids, ht.pre, ht.inj, ht.minj, ht.told, fun q a hq => .inl ⟨q, a, hq, rfl⟩, fun q b hq hm => .inr ⟨q, hq, hm⟩, ht.kind⟩, hmore _ _ h.root, fun q hq hm => ?_, fun q B' hq => ?_, hlow⟩, bk hB, hfoot⟩
  · rw [n2 0 (by simp)]; exact o1
  · rw [n2 1 (by simp)]; exact o2
  · rw [n2 2 (by simp)]; exact o3
  · rw [n2 5 (by simp)]; exact o4
  · rw [n2 7 (by simp)]; exact o5
  · rw [n2 8 (by simp)]; exact o6
  · rw [n2 12 (by simp)]; exact o7
  · rcases ht.mfoot q _ hq hm with (⟨q', a, hq', e⟩ | ⟨q', hq', hm'⟩) | hge
    · obtain ⟨es, cl, hs⟩ := hSM
      obtain ⟨arr2, ty, m0, _⟩ := h.tree.node q' a hq'
      rw [← e, hs] at m0; cases m0
    · exact h.smap q' hq' hm'
    · omega
  · by_cases e : q = p
    · subst e
      simp only [if_true] at hq
      injection hq with hq
      subst hq
      exact ⟨bk hB, hfr, hp⟩
    · simp only [if_neg e] at hq
      obtain ⟨q1, q2, q3⟩ := h.whole q B' hq
      exact ⟨bk q1, q2, q3⟩
end

theorem Try.info_slot : (Try.prog.info? 127).map (fun i => (i.zero, i.size, i.bytes)) = some (some (.agg #[.int .i64 0, .slice none 0 0]), 2, 32) := by kernel_rfl

/-- Slots that are being laid. -/
def SlotRow (base : Nat) (ok : Nat → Prop) (w : World) (v : Value) (c : Cfg) (T : List Nat) (f j : Nat) : Prop :=
  ∃ F : Nat → Value, w.ownsRow base 127 2 v j ((List.range (j * 2)).map F) ∧ ∀ i, i < j → F (i * 2) = .int .i64 (tkI T (f + i)) ∧ CellI ok w (F (i * 2 + 1)) c.layers c.width (kOf c (tkN T) (f + i)) (vOf c (tkN T) (f + i))

theorem SlotRow.push {base : Nat} {ok : Nat → Prop} {w : World} {v' cv : Value} {c : Cfg} {T : List Nat} {f j : Nat} {F : Nat → Value}
    (hF : ∀ i, i < j → F (i * 2) = .int .i64 (tkI T (f + i)) ∧ CellI ok w (F (i * 2 + 1)) c.layers c.width (kOf c (tkN T) (f + i)) (vOf c (tkN T) (f + i)))
    (hown : w.ownsRow base 127 2 v' (j + 1) ((List.range (j * 2)).map F ++ [.int .i64 (tkI T (f + j)), cv])) (hc : CellI ok w cv c.layers c.width (kOf c (tkN T) (f + j)) (vOf c (tkN T) (f + j))) :
    SlotRow base ok w v' c T f (j + 1) := by
  refine ⟨fun i => if i = j * 2 then .int .i64 (tkI T (f + j)) else if i = j * 2 + 1 then cv else F i, ?_, fun i hi => ?_⟩
  · have e : (List.range ((j + 1) * 2)).map (fun i => if i = j * 2 then Value.int .i64 (tkI T (f + j)) else if i = j * 2 + 1 then cv else F i) = (List.range (j * 2)).map F ++ [.int .i64 (tkI T (f + j)), cv] := by
      rw [show (j + 1) * 2 = j * 2 + 2 by omega, range_map_add]
      congr 1
      · apply List.map_congr_left
        intro i hi
        have := List.mem_range.1 hi
        rw [if_neg (by omega), if_neg (by omega)]
      · simp [List.range_succ]
    rw [e]; exact hown
  · by_cases e : i = j
    · subst e
      simp [hc]
    · have g1 : (if i * 2 = j * 2 then Value.int .i64 (tkI T (f + j)) else if i * 2 = j * 2 + 1 then cv else F (i * 2)) = F (i * 2) := by rw [if_neg (by omega), if_neg (by omega)]
      have g2 : (if i * 2 + 1 = j * 2 then Value.int .i64 (tkI T (f + j)) else if i * 2 + 1 = j * 2 + 1 then cv else F (i * 2 + 1)) = F (i * 2 + 1) := by rw [if_neg (by omega), if_neg (by omega)]
      simp only [g1, g2]
      exact hF i (by omega)

theorem SlotRow.slots {base : Nat} {ok : Nat → Prop} {w : World} {v : Value} {c : Cfg} {T : List Nat} {f j : Nat} (h : SlotRow base ok w v c T f j) (hj : 0 < j) : SlotsI ok w v c T f j := by
  obtain ⟨F, ⟨_, ⟨_, e⟩ | ⟨g, cap, cur, rfl, hg, hh, q1, q2, q3, q4⟩⟩, h2⟩ := h
  · omega
  · refine ⟨g, cap, cur, _, rfl, q1, q2, hh, fun i hi => ?_⟩
    have cell : ∀ k, k < j * 2 → cur[k]? = some (F k) := fun k hk => by
      have h1 := congrArg (fun l => l[k]?) q4
      simp [hk] at h1
      simpa using h1
    obtain ⟨t1, t2⟩ := h2 i hi
    exact ⟨by rw [cell _ (by omega), t1], _, cell _ (by omega), t2⟩

theorem slot_new (w : World) (a b : Value) (t : TypeId) : ∀ (j : Nat) (u : Value), [a, b][j]? = some u → (w.alloc (.cells #[a, b] t)).cell? ((⟨w.heap.size, 0, none⟩ : Addr).add j) = some u := two_new w a b t

theorem owns_keepT {w w' : World} {base : Nat} {e : TypeId} {size : Nat} {v : Value} {n : Nat} {xs : List Value} (h : w.ownsRow base e size v n xs) (hk : KeepT e w w') : w'.ownsRow base e size v n xs := by
  obtain ⟨h1, h2 | ⟨g, cap, cur, e', hg, hh, rest⟩⟩ := h
  · exact ⟨h1, .inl h2⟩
  · exact ⟨h1, .inr ⟨g, cap, cur, e', hg, hk _ _ _ hh, rest⟩⟩

theorem CellsI.keepT {base : Nat} {ok : Nat → Prop} {w w' : World} {v : Value} {c : Cfg} {T : List Nat} {n : Nat} (h : CellsI base ok w v c T n) (h1 : KeepT 125 w w') (h2 : KeepT 147 w w') (h3 : KeepT 3 w w') : CellsI base ok w' v c T n := by
  obtain ⟨xs, a, b⟩ := h
  exact ⟨xs, owns_keepT a h1, fun t ht => (b t ht).keep h2 h3⟩

theorem SlotRow.keepT {base : Nat} {ok : Nat → Prop} {w w' : World} {v : Value} {c : Cfg} {T : List Nat} {f j : Nat} (h : SlotRow base ok w v c T f j) (h1 : KeepT 127 w w') (h2 : KeepT 147 w w') (h3 : KeepT 3 w w') : SlotRow base ok w' v c T f j := by
  obtain ⟨F, a, b⟩ := h
  exact ⟨F, owns_keepT a h1, fun i hi => ⟨(b i hi).1, (b i hi).2.keep h2 h3⟩⟩

theorem CellsI.form {base : Nat} {ok : Nat → Prop} {w : World} {v : Value} {c : Cfg} {T : List Nat} {n : Nat} (h : CellsI base ok w v c T n) : ∃ a cap, v = .slice a n cap := by
  obtain ⟨_, ⟨_, ⟨rfl, e⟩ | ⟨g, cap, cur, rfl, _⟩⟩, _⟩ := h
  · exact ⟨none, 0, by rw [e]⟩
  · exact ⟨_, cap, rfl⟩

theorem run_min (P : Program) (w : World) (ts : Array TypeId) (ty : TypeId) (a b e : Int) (h : (a ≤ b ∧ e = a) ∨ (b < a ∧ e = b)) : (Builtin.min_ ts ty #[.int .i64 a, .int .i64 b]).run P w = .ok (.int .i64 e) w := by
  rcases h with ⟨h, rfl⟩ | ⟨h, rfl⟩
  · simp [Builtin.min_, Builtin.min2, go_sem, show ¬ b < e by omega]
  · simp [Builtin.min_, Builtin.min2, go_sem, h]

/-- What fill has done: block B holds the tokens from a position up to another. -/
def Filled (ok : Nat → Prop) (_K : Nat) (g : Parts) (c : Cfg) (nf : Nat) (free : Nat → Nat) (N : List Nat → Option (Nat × Nat)) (Mm : List Nat → Option Nat) (V : List Nat → Option Nat) (T : List Nat) (from' en : Nat) (W0 : World) (e : Ending) (w' : World) : Prop :=
  e = .returned (.pointer (some ⟨free nf, 0, none⟩)) ∧ Only (FillF g (free nf) N Mm) W0 w' ∧ BlockI ok w' (free nf) c T from' (en - from') ∧
    ∃ K' N' Mm', StoreI ok K' w' g c nf free N' Mm' (if from' + c.slots ≤ T.length then (fun q => if q = T.take (from' + c.slots) then some (free nf) else V q) else V) ∧ ∀ k, TFoot N' Mm' k → TFoot N Mm k ∨ W0.heap.size ≤ k

set_option maxRecDepth 100000 in
set_option maxHeartbeats 4000000 in
theorem fill_any (ok : Nat → Prop) (K : Nat) (g : Parts) (c : Cfg) (hc : c.ok) (nf : Nat) (free : Nat → Nat) (N : List Nat → Option (Nat × Nat)) (Mm : List Nat → Option Nat) (V : List Nat → Option Nat) (T : List Nat) (vt vp : Value) (from' en : Nat) (W0 w : World)
    (h : StoreI ok K W0 g c (nf + 1) free N Mm V) (hSM : ∃ es cl, W0.heap[g.SM]? = some (.map es cl)) (hB : Below W0.heap.size W0 w) (hT : TokT W0 vt T) (hb : ∀ t ∈ T, t < c.vocab) (hl : T.length ≤ 40) (hf : from' < T.length) (hok : ∀ b, W0.heap.size ≤ b → ok b) (hP : CellsI W0.heap.size ok w vp c T from')
    (hen : (from' + c.slots ≤ T.length ∧ en = from' + c.slots) ∨ (T.length < from' + c.slots ∧ en = T.length)) :
    Calls Try.prog 61 #[.pointer (some ⟨g.X, 0, none⟩), vt, .int .i64 from', vp] w fun e w' => Filled ok K g c nf free N Mm V T from' en W0 e w' := by
  obtain ⟨i0, hi, hz0, hz1, hz2⟩ := info_parts Try.info_cell
  obtain ⟨i1, hi', hz0', hz1', hz2'⟩ := info_parts Try.info_slot
  obtain ⟨s1, s2⟩ := hc.slots
  obtain ⟨v1, v2⟩ := hc.vocab
  have hw := h.below hB
  obtain ⟨arr, o0, o1, o2, o3, o4, o5, o6, o7⟩ := hw.obj
  have c1 : w.cell? ⟨g.X, 1, none⟩ = some (.int .i64 c.slots) := by rw [cell_blk o0]; exact o2
  have c8 : w.cell? ⟨g.X, 8, none⟩ = some (.pointer (some ⟨g.PL, 0, none⟩)) := by rw [cell_blk o0]; exact o6
  obtain ⟨ap, cp, rfl, hp1, hp2⟩ := hT.slice
  unfold maxLen at hp2
  have hmin := fun w ts ty => run_min Try.prog w ts ty ((from' : Int) + c.slots) T.length en (by omega)
  have hbd : from' < en ∧ en ≤ T.length ∧ en ≤ from' + c.slots := by omega
  obtain ⟨bd1, bd2, bd3⟩ := hbd
  obtain ⟨m, hm⟩ : ∃ m, en = from' + m := ⟨en - from', by omega⟩
  obtain ⟨bt, ot, rfl, hbt, hct⟩ : ∃ b off, ap = some ⟨b, off, none⟩ ∧ b < W0.heap.size ∧ ∀ j, j < T.length → W0.cell? ⟨b, off + j, none⟩ = some (.int .i64 (tkI T j)) := by
    obtain ⟨a', c', e, _, _, h3⟩ := hT.ints
    injection e with e1 _ _
    subst e1
    exact h3 (by omega)
  have Hen := hide hen
  have HSM := hide hSM
  have HB := hide hB
  have Hh := hide h
  have HT := hide hT
  have Hct := hide hct
  have Htk : Hid (∀ j, j < T.length → tkN T j < c.vocab) := fun j hj => hb _ (by unfold tkN; rw [List.getD_eq_getElem?_getD]; simp [hj])
  have HTake := hide (pooltake_any g.PL g.FB nf g.cap free w hw.pool)
  have Hok := hide hok
  have hbk := h.pool.blank nf (by omega)
  have hbk' := hw.pool.blank nf (by omega)
  have hBl := lt_blk hbk
  have hXl : g.X < W0.heap.size := by obtain ⟨_, q, _⟩ := h.obj; exact lt_blk q
  obtain ⟨parr, r0, _⟩ := h.pool.row
  have hBne : free nf ≠ g.PL ∧ free nf ≠ g.FB := ⟨blk_ne hbk h.pool.obj (by decide), blk_ne hbk r0 (by decide)⟩
  clear hen hSM h hT hct hw hok
  go_enter Try.func61, Try.ntmps61
  go_wp2_with (go_at_call 76; refine HTake.out.mono ?_; rintro e w1 ⟨rfl, hp1', ho1, hs1⟩)
  rw [show from' + m - from' = m by omega]
  go_loopw [3, 35] (fun past i wr => ∃ (j : Nat) (v : Value) (ac : Option Addr) (cc : Nat), j ≤ m ∧ i = .int .i64 j ∧ past = .slice ac (from' + j) cc ∧ CellsI W0.heap.size ok wr (.slice ac (from' + j) cc) c T (from' + j) ∧ wr.heap[free nf]? = some (.cells #[v] 90 (0, 0)) ∧ SlotRow W0.heap.size ok wr v c T from' j ∧ Only (fun k => k = g.PL ∨ k = g.FB ∨ k = free nf) W0 wr ∧ PoolI wr g.PL g.FB nf g.cap free) (fun _ i _ => m - (intOf i).toNat)
  case atStart =>
    have hoW : Only (fun k => k = g.PL ∨ k = g.FB ∨ k = free nf) W0 w1 := (Only.of_below HB.out _).trans ho1 (fun k _ hk => by rcases hk with hk | hk; exact .inl hk; exact .inr (.inl hk))
    have hkp : ∀ e, e ≠ 120 → e ≠ 78 → KeepT e w w1 := fun e h1 h2 => ho1.keep (fun k cur fr hk hh => by
      have hPo := (HB.out.block _ (lt_blk Hh.out.pool.obj)).trans Hh.out.pool.obj
      have hFo := (HB.out.block _ (lt_blk r0)).trans r0
      rcases hk with rfl | rfl
      · rw [hPo] at hh; injection hh with hh; injection hh with _ hh _; exact h1 hh.symm
      · rw [hFo] at hh; injection hh with hh; injection hh with _ hh _; exact h2 hh.symm)
    obtain ⟨ac, cc, rfl⟩ := hP.form
    refine ⟨0, .slice none 0 0, ac, cc, Nat.zero_le _, rfl, rfl, ?_, ?_, ⟨fun _ => undef, World.ownsRow_nil _ _ _ _, fun i hi => absurd hi (by omega)⟩, hoW, hp1'⟩
    · obtain ⟨xs, x1, x2⟩ := hP
      refine ⟨xs, ?_, fun t ht => (x2 t ht).keep (hkp _ (by decide) (by decide)) (hkp _ (by decide) (by decide))⟩
      obtain ⟨y1, y2 | ⟨g', cap', cur', e', y3, y4, y5⟩⟩ := x1
      · exact ⟨y1, .inl y2⟩
      · exact ⟨y1, .inr ⟨g', cap', cur', e', y3, hkp _ (by decide) (by decide) _ _ _ y4, y5⟩⟩
    · exact hkp _ (by decide) (by decide) _ _ _ hbk'
  case round =>
    clear hp1' ho1 hs1 hP HTake
    obtain ⟨j, v, ac, cc, hj, rfl, rfl, hcells, hvB, hslots, hoW, hpool⟩ := hrel
    have hst : StoreI ok K wr g c nf free N Mm V := Hh.out.took hoW hpool
    have hkW : KeepT 3 W0 wr := hoW.keep (fun k cur fr hk hh => by
      rcases hk with rfl | rfl | rfl
      · rw [Hh.out.pool.obj] at hh; injection hh with hh; injection hh with _ hh _; exact absurd hh (by decide)
      · rw [r0] at hh; injection hh with hh; injection hh with _ hh _; exact absurd hh (by decide)
      · rw [hbk] at hh; injection hh with hh; injection hh with _ hh _; exact absurd hh (by decide))
    have hTr : TokT wr (.slice (some ⟨bt, ot, none⟩) T.length cp) T := HT.out.keep hkW
    have hct : ∀ j, j < T.length → wr.cell? ⟨bt, ot + j, none⟩ = some (.int .i64 (tkI T j)) := fun j hj => by
      obtain ⟨a', c', e, _, _, h3⟩ := hTr.ints
      injection e with e1 _ _
      subst e1
      obtain ⟨b, off, e2, _, h4⟩ := h3 (by omega)
      cases e2
      exact h4 j hj
    obtain ⟨arr', p0, p1, p2, p3, p4, p5, p6, p7⟩ := hst.obj
    have x1 : wr.cell? ⟨g.X, 1, none⟩ = some (.int .i64 c.slots) := by rw [cell_blk p0]; exact p2
    have x7 : wr.cell? ⟨g.X, 7, none⟩ = some (.pointer (some ⟨g.M, 0, none⟩)) := by rw [cell_blk p0]; exact p5
    have hszW := hoW.size
    by_cases hlt : j < m
    · have ck := hct (from' + j) (by omega)
      rw [← Nat.add_assoc] at ck
      unfold tkI at ck
      have hpass := pass_any c hc g.M (tkN T (from' + j)) (from' + j) _ g.vE g.vH g.bL g.oL g.cL _ _ wr hst.model.model (hcells.past (Nat.le_refl _)) (Htk.out _ (by omega)) (by omega) (memOf_bd c (tkN T) (from' + j)).1 (memOf_bd c (tkN T) (from' + j)).2
      have Hpass := hide hpass
      clear hpass hct hTr hkW p0 p1 p2 p3 p4 p5 p6 p7
      have Hst := hide hst
      clear hst
      obtain ⟨tk, etk⟩ : ∃ tk, tk = tkN T (from' + j) := ⟨_, rfl⟩
      rw [← etk] at ck
      have Hetk := hide etk
      obtain ⟨xs, hown0, hxs⟩ := hcells
      obtain ⟨F, hslo0, hF⟩ := hslots
      have Hxs := hide hxs
      have HF := hide hF
      clear hxs hF etk
      go_wp2_with (first
        | (go_at_call 67; rw [Hetk.out]; refine Hpass.out.mono ?_; rintro e w2 ⟨r, cell, rfl, -, hcell, hb2⟩; obtain ⟨bc, ccap, carr, cfr, ecell, hcr⟩ := id hcell; subst ecell; have hsz2 := hb2.size; have hvB2 := (hb2.block _ (lt_blk hvB)).trans hvB; have hown2 := owns_below' hown0 hb2; have hslo2 := owns_below' hslo0 hb2; have Hcell := hide hcell; have Hcr := hide hcr; clear hcell hcr hown0 hslo0)
        | (at_builtin; refine wpList_append_own _ rfl _ _ 122 rfl W0.heap.size 125 i0 (.slice none 0 0) 1 24 Try.underlying122 hi hz0 hz1 hz2 rfl (by decide) _ _ _ rfl (hown2.alloc _) ⟨w2.heap.size, 0, none⟩ 1 1 [.slice (some ⟨bc, 0, none⟩) c.layers ccap] rfl rfl (one_new w2 _ _) (by intro u hu; simp at hu; subst hu; rfl) (by unfold maxLen; omega) (by omega) (by simp; omega) ?_; intro v3 w3 hown3 hgrow3 _; have hvB3 : w3.heap[free nf]? = some (.cells #[v] 90 (0, 0)) := (hgrow3.block _ (by simp; have := lt_blk hvB2; omega) (fun e => by have := (hown2.lt _ e.symm).1; omega)).trans ((alloc_old _ _ _ (lt_blk hvB2)).trans hvB2); have d3 : w3.cell? ⟨free nf, 0, none⟩ = some v := (by rw [cell_blk hvB3]; rfl); have hslo3 := owns_keepT (owns_keepT hslo2 (KeepT.alloc _ _)) (KeepT.of_grown (hown2.alloc _) hgrow3 (by decide)); have hsz3 := hgrow3.size; simp at hsz3)
        | (at_builtin; refine wpList_append_lies _ rfl _ _ 88 rfl W0.heap.size 127 i1 _ 2 32 Try.underlying88 hi' hz0' hz1' hz2' rfl (by omega) v j _ rfl (hslo3.alloc _) ⟨w3.heap.size, 0, none⟩ 1 1 [.int .i64 (tkN T (from' + j)), .slice (some ⟨bc, 0, none⟩) c.layers ccap] rfl rfl (slot_new w3 _ _ _) (by intro u hu; simp at hu; rcases hu with rfl | rfl <;> rfl) (by omega) (by unfold maxLen; omega) (by omega) (by simp; omega) (w3.heap.size + 1) (by simp) ?_; intro gg cap w4 hown4 hgrow4 hat hlt4; have hvB4 : w4.heap[free nf]? = some (.cells #[v] 90 (0, 0)) := (hgrow4.block _ (by simp; have := lt_blk hvB3; omega) (fun e => by have := (hslo3.lt _ e.symm).1; omega)).trans ((alloc_old _ _ _ (lt_blk hvB3)).trans hvB3); have d4 : w4.cell? ⟨free nf, 0, none⟩ = some v := (by rw [cell_blk hvB4]; rfl); have g4 := frozen_blk hvB4 0))
      have k12 : ∀ e : TypeId, KeepT e wr w2 := fun e => KeepT.of_below hb2
      have k23 : ∀ e : TypeId, e ≠ 125 → KeepT e w2 w3 := fun e he => (KeepT.alloc _ _).trans (KeepT.of_grown (hown2.alloc _) hgrow3 he)
      have k34 : ∀ e : TypeId, e ≠ 127 → KeepT e w3 w4 := fun e he => (KeepT.alloc _ _).trans (KeepT.of_grown (hslo3.alloc _) hgrow4 he)
      have k45 : ∀ e : TypeId, e ≠ 90 → KeepT e w4 (w4.setCell ⟨free nf, 0, none⟩ (.slice (some ⟨gg, 0, none⟩) (j + 1) cap)) := fun e he => KeepT.setCell hvB4 he _
      have hcell2 : CellI ok w2 (.slice (some ⟨bc, 0, none⟩) c.layers ccap) c.layers c.width (kOf c (tkN T) (from' + j)) (vOf c (tkN T) (from' + j)) := Hcell.out.mono (fun b hb => Hok.out b (Nat.le_trans hszW hb))
      have hC3 := CellsI.push hown3 (fun t ht => (Hxs.out t ht).keep ((k12 _).trans (k23 _ (by decide))) ((k12 _).trans (k23 _ (by decide)))) (hcell2.keep (k23 _ (by decide)) (k23 _ (by decide)))
      have hS4 : SlotRow W0.heap.size ok w4 (.slice (some ⟨gg, 0, none⟩) (j + 1) cap) c T from' (j + 1) := SlotRow.push (fun i hi => ⟨(HF.out i hi).1, (HF.out i hi).2.keep (((k12 _).trans (k23 _ (by decide))).trans (k34 _ (by decide))) (((k12 _).trans (k23 _ (by decide))).trans (k34 _ (by decide)))⟩) hown4 (hcell2.keep ((k23 _ (by decide)).trans (k34 _ (by decide))) ((k23 _ (by decide)).trans (k34 _ (by decide))))
      have hoW2 : Only (fun k => k = g.PL ∨ k = g.FB ∨ k = free nf) W0 w2 := hoW.trans (Only.of_below hb2 (fun _ => False)) (fun _ _ h => h.elim)
      have hoW4 : Only (fun k => k = g.PL ∨ k = g.FB ∨ k = free nf) W0 w4 := ((((hoW2.alloc _).grown hgrow3 (fun b hb hlt => by have := (hown2.lt _ hb).1; omega)).alloc _).grown hgrow4 (fun b hb hlt => by have := (hslo3.lt _ hb).1; omega))
      have hoW5 := hoW4.setCell (p := ⟨free nf, 0, none⟩) (fun _ => .inr (.inr rfl)) (.slice (some ⟨gg, 0, none⟩) (j + 1) cap)
      have hpool5 : PoolI (w4.setCell ⟨free nf, 0, none⟩ (.slice (some ⟨gg, 0, none⟩) (j + 1) cap)) g.PL g.FB nf g.cap free := by
        obtain ⟨parr2, y0, y1, y2⟩ := hpool.row
        have k14 : ∀ e : TypeId, e ≠ 125 → e ≠ 127 → KeepT e wr w4 := fun e h1 h2 => ((k12 e).trans (k23 e h1)).trans (k34 e h2)
        refine ⟨k45 _ (by decide) _ _ _ (k14 _ (by decide) (by decide) _ _ _ hpool.obj), ⟨parr2, k45 _ (by decide) _ _ _ (k14 _ (by decide) (by decide) _ _ _ y0), y1, y2⟩, hpool.le, hpool.cap, fun i hi => ?_, hpool.inj⟩
        rw [setCell_far _ _ _ _ _ (fun e => by have := Hh.out.pool.inj i nf (by omega) (by omega) e; omega)]
        exact k14 _ (by decide) (by decide) _ _ _ (hpool.blank i hi)
      have hvB5 : (w4.setCell ⟨free nf, 0, none⟩ (.slice (some ⟨gg, 0, none⟩) (j + 1) cap)).heap[free nf]? = some (.cells #[.slice (some ⟨gg, 0, none⟩) (j + 1) cap] 90 (0, 0)) := by rw [setCell_blk hvB4]; rfl
      have hC5 := (hC3.keepT (k34 _ (by decide)) (k34 _ (by decide)) (k34 _ (by decide))).keepT (k45 _ (by decide)) (k45 _ (by decide)) (k45 _ (by decide))
      have hS5 := hS4.keepT (k45 _ (by decide)) (k45 _ (by decide)) (k45 _ (by decide))
      obtain ⟨a3, cap3, rfl⟩ := hC5.form
      go_roundw
      case rel => exact ⟨j + 1, _, a3, cap3, by omega, by go_num, rfl, hC5, hvB5, hS5, hoW5, hpool5⟩
      case measure => simp [intOf]; omega
    · have hjm : j = m := by omega
      subst hjm
      have hBlk : BlockI ok wr (free nf) c T from' j := ⟨v, hvB, hslots.slots (by omega)⟩
      obtain ⟨sb, sc, sa, sf, ev, hsv⟩ := hslots.slots (by omega)
      subst ev
      have b0 : wr.cell? ⟨free nf, 0, none⟩ = some (.slice (some ⟨sb, 0, none⟩) j sc) := by rw [cell_blk hvB]; rfl
      have HBlk := hide hBlk
      have Hst := hide hst
      have HTr := hide hTr
      clear hsv hslots hcells hct hTr hkW p0 p1 p2 p3 p4 p5 p6 p7 hBlk hst
      go_wp2
      go_quiet (fail)
      rcases Hen.out with ⟨he1, he2⟩ | ⟨he1, he2⟩
      · obtain rfl : j = c.slots := by omega
        have hput : ∀ W : World, W.heap = wr.heap → Only (fun k => k = g.PL ∨ k = g.FB ∨ k = free nf) W0 W → Calls Try.prog 77 #[.pointer (some ⟨g.X, 9, none⟩), .slice (some ⟨bt, ot, none⟩) (from' + c.slots) cp, .pointer (some ⟨free nf, 0, none⟩)] W fun e w' => e = .returned (.tuple #[]) ∧ Only (FillF g (free nf) N Mm) W0 w' ∧ BlockI ok w' (free nf) c T from' c.slots ∧
            ∃ K' N' Mm', StoreI ok K' w' g c nf free N' Mm' (fun q => if q = T.take (from' + c.slots) then some (free nf) else V q) ∧ ∀ k, TFoot N' Mm' k → TFoot N Mm k ∨ W0.heap.size ≤ k := by
          intro W hW hOW
          have hsW := Hst.out.heap hW
          have hlen : (T.take (from' + c.slots)).length = from' + c.slots := by simp; omega
          have hTp : TokT W (.slice (some ⟨bt, ot, none⟩) (from' + c.slots) cp) (T.take (from' + c.slots)) := TokT.take (n := T.length) (HTr.out.keep (fun k cur fr hk => by rw [hW]; exact hk)) _ (by omega)
          have hlow := Hh.out.low
          refine (treeput_any K _ N Mm V g.X 9 (free nf) (T.take (from' + c.slots)) _ W hsW.tree hsW.root hTp (fun t ht => by have := hb t (List.mem_of_mem_take ht); omega) (fun k cur fr hk hh => by rcases hsW.tree.foot_ty hk hh with q | q <;> exact absurd q (by decide)) (by rw [hlen]; omega) (by omega)).mono ?_
          rintro e w3 ⟨rfl, N', hmore⟩
          have ho3 := hmore.only
          have hBW : BlockI ok W (free nf) c T from' c.slots := HBlk.out.keep (by rw [hW]) (fun e _ k cur fr hk => by rw [hW]; exact hk)
          have hBp : BlockI ok W (free nf) c (T.take (from' + c.slots)) ((T.take (from' + c.slots)).length - c.slots) c.slots := by
            rw [hlen, show from' + c.slots - c.slots = from' by omega]
            exact hBW.congr (fun i hi => (tkN_take T (from' + c.slots) i hi).symm)
          have hSMW : ∃ es cl, W.heap[g.SM]? = some (.map es cl) := by
            obtain ⟨es, cl, q⟩ := HSM.out
            refine ⟨es, cl, ?_⟩
            rw [hOW.block _ (lt_blk q) (fun hh => ?_)]
            · exact q
            · rcases hh with hh | hh | hh
              · rw [hh, Hh.out.pool.obj] at q; cases q
              · rw [hh, r0] at q; cases q
              · rw [hh, hbk] at q; cases q
          obtain ⟨Mm', q1, q2, q3⟩ := hsW.put hmore hSMW hBp (fun i hi e => by have := Hh.out.pool.inj i nf (by omega) (by omega) e; omega) (by rw [hlen]; omega) (by rw [hlen]; omega)
          refine ⟨rfl, (hOW.mono (fun k _ hk => ?_)).trans ho3 (fun k _ hk => .inr (.inr (.inr hk))), ?_, _, N', Mm', q1, fun k hk => ?_⟩
          · rcases hk with hk | hk | hk
            · exact .inl hk
            · exact .inr (.inl hk)
            · exact .inr (.inr (.inl hk))
          · rw [hlen, show from' + c.slots - c.slots = from' by omega] at q2
            exact q2.congr (fun i hi => tkN_take T (from' + c.slots) i hi)
          · rcases q3 k hk with h | h
            · exact .inl h
            · right; have := hOW.size; omega
        have Hput := hide hput
        clear hput
        clear HTr Hst HBlk
        have hO : Only (fun k => k = g.PL ∨ k = g.FB ∨ k = free nf) W0 (wr.drewN (nq + 1)) := hoW.drewN _
        have Hput2 := hide (Hput.out (wr.drewN (nq + 1)) rfl hO)
        go_wp2
        go_region_with (go_at_call 77; refine Hput2.out.mono ?_; rintro e w3 ⟨rfl, hend⟩)
        all_goals (go_wp2; go_ret)
        all_goals (
          obtain ⟨q1, q2, K', N', Mm', q3, q4⟩ := hend
          refine ⟨rfl, q1, ?_, K', N', Mm', ?_, q4⟩
          · rw [show en - from' = c.slots by omega]; exact q2
          · rw [if_pos (by omega)]; exact q3)
      · have hjs : (j : Int) ≠ c.slots := by omega
        go_wp2
        go_ret
        refine ⟨rfl, (hoW.drewN nq).mono (fun k _ hk => ?_), ?_, K, N, Mm, ?_, fun k hk => .inl hk⟩
        · rcases hk with hk | hk | hk
          · exact .inl hk
          · exact .inr (.inl hk)
          · exact .inr (.inr (.inl hk))
        · rw [show en - from' = j by omega]; exact HBlk.out
        · rw [if_neg (by omega)]; exact Hst.out.drewN nq

end Go.Proofs.Ytaidjhlijadmiaa

/-
  The program's hoard lays tokens into blocks.
-/
namespace Go.Proofs.Ytaidjhlijadmiaa
open Go.RowKit
attribute [local go_sem ↓] Go.wp_at_zero Go.wp_at_succ

/-- The blocks of what a hoard keeps, but for its sequences. -/
def StoreF (g : Parts) (nf : Nat) (free : Nat → Nat) (N : List Nat → Option (Nat × Nat)) (Mm : List Nat → Option Nat) (V : List Nat → Option Nat) (k : Nat) : Prop :=
  k = g.X ∨ k = g.PL ∨ k = g.FB ∨ TFoot N Mm k ∨ (∃ i, i < nf ∧ k = free i) ∨ ∃ p, V p = some k

/-- What lay may write into. -/
def LayF (g : Parts) (nf : Nat) (free : Nat → Nat) (N : List Nat → Option (Nat × Nat)) (Mm : List Nat → Option Nat) (k : Nat) : Prop := k = g.PL ∨ k = g.FB ∨ TFoot N Mm k ∨ ∃ i, i < nf ∧ k = free i

section
variable {ok : Nat → Prop} {K : Nat} {w w' : World} {g : Parts} {c : Cfg} {nf : Nat} {free : Nat → Nat} {N : List Nat → Option (Nat × Nat)} {Mm : List Nat → Option Nat} {V : List Nat → Option Nat}

theorem StoreI.keepA (h : StoreI ok K w g c nf free N Mm V) (hF : ∀ k, StoreF g nf free N Mm V k → w'.heap[k]? = w.heap[k]?) (hk : ∀ e, immT e → KeepT e w w') : StoreI ok K w' g c nf free N Mm V := by
  obtain ⟨arr, o0, o⟩ := h.obj
  obtain ⟨parr, r0, r⟩ := h.pool.row
  refine ⟨⟨arr, (hF _ (.inl rfl)).trans o0, o⟩, h.model.keep (hk _ (by unfold immT; decide)) (hk _ (by unfold immT; decide)) (hk _ (by unfold immT; decide)) (hk _ (by unfold immT; decide)), ⟨(hF _ (.inr (.inl rfl))).trans h.pool.obj, ⟨parr, (hF _ (.inr (.inr (.inl rfl)))).trans r0, r⟩, h.pool.le, h.pool.cap, fun i hi => (hF _ (.inr (.inr (.inr (.inr (.inl ⟨i, hi, rfl⟩)))))).trans (h.pool.blank i hi), h.pool.inj⟩, h.tree.keep (fun k hk => hF k (.inr (.inr (.inr (.inl hk))))), h.root, h.smap, fun p B hp => ?_, h.low⟩
  obtain ⟨q1, q2, q3⟩ := h.whole p B hp
  exact ⟨q1.keep (hF B (.inr (.inr (.inr (.inr (.inr ⟨p, hp⟩)))))) hk, q2, q3⟩

theorem StoreI.kindF (h : StoreI ok K w g c nf free N Mm V) {k : Nat} (hk : StoreF g nf free N Mm V k) {cur : Array Value} {e : TypeId} {fr : Nat × Nat} (hh : w.heap[k]? = some (.cells cur e fr)) :
    e = 83 ∨ e = 120 ∨ (e = 78 ∧ k = g.FB) ∨ e = 80 ∨ e = 90 := by
  obtain ⟨arr, o0, _⟩ := h.obj
  obtain ⟨parr, r0, _⟩ := h.pool.row
  rcases hk with rfl | rfl | rfl | hk | ⟨i, hi, rfl⟩ | ⟨p, hp⟩
  · rw [o0] at hh; injection hh with hh; injection hh with _ hh _; exact .inl hh.symm
  · rw [h.pool.obj] at hh; injection hh with hh; injection hh with _ hh _; exact .inr (.inl hh.symm)
  · rw [r0] at hh; injection hh with hh; injection hh with _ hh _; exact .inr (.inr (.inl ⟨hh.symm, rfl⟩))
  · rcases h.tree.foot_ty hk hh with q | q
    · exact .inl q
    · exact .inr (.inr (.inr (.inl q)))
  · rw [h.pool.blank i hi] at hh; injection hh with hh; injection hh with _ hh _; exact .inr (.inr (.inr (.inr hh.symm)))
  · obtain ⟨q1, _, _⟩ := h.whole p k hp
    obtain ⟨v, q4⟩ := q1.ty
    rw [q4] at hh; injection hh with hh; injection hh with _ hh _; exact .inr (.inr (.inr (.inr hh.symm)))

theorem StoreI.ltF (h : StoreI ok K w g c nf free N Mm V) {k : Nat} (hk : StoreF g nf free N Mm V k) : k < w.heap.size := by
  obtain ⟨arr, o0, _⟩ := h.obj
  obtain ⟨parr, r0, _⟩ := h.pool.row
  rcases hk with rfl | rfl | rfl | hk | ⟨i, hi, rfl⟩ | ⟨p, hp⟩
  · exact lt_blk o0
  · exact lt_blk h.pool.obj
  · exact lt_blk r0
  · exact TFoot.lt h.tree hk
  · exact lt_blk (h.pool.blank i hi)
  · obtain ⟨q1, _, _⟩ := h.whole p k hp
    obtain ⟨v, q4⟩ := q1.ty
    exact lt_blk q4

/-- Where blocks of the store alone were written into, what is never written into is as it was. -/
theorem StoreI.keepS {F : Nat → Prop} (h : StoreI ok K w g c nf free N Mm V) (ho : Only F w w') (hF : ∀ k, k < w.heap.size → F k → StoreF g nf free N Mm V k) : ∀ e, immT e → KeepT e w w' := fun e he => by
  obtain ⟨h1, h2, h3, h4, h5⟩ := he.ne
  refine (ho.mono (F' := fun k => F k ∧ k < w.heap.size) (fun k hl hk => ⟨hk, hl⟩)).keep (fun k cur fr hk hh => ?_)
  rcases h.kindF (hF k hk.2 hk.1) hh with q | q | ⟨q, _⟩ | q | q
  · exact h1 q
  · exact h2 q
  · exact h3 q
  · exact h5 q
  · exact h4 q
end

theorem StoreI.c1 {ok : Nat → Prop} {K : Nat} {w : World} {g : Parts} {c : Cfg} {nf : Nat} {free : Nat → Nat} {N : List Nat → Option (Nat × Nat)} {Mm : List Nat → Option Nat} {V : List Nat → Option Nat} (h : StoreI ok K w g c nf free N Mm V) : w.cell? ⟨g.X, 1, none⟩ = some (.int .i64 c.slots) := by
  obtain ⟨arr, o0, _, o2, _⟩ := h.obj
  rw [cell_blk o0]; exact o2

/-- The map of the sequences is none of the store's blocks. -/
theorem StoreI.smF {ok : Nat → Prop} {K : Nat} {w : World} {g : Parts} {c : Cfg} {nf : Nat} {free : Nat → Nat} {N : List Nat → Option (Nat × Nat)} {Mm : List Nat → Option Nat} {V : List Nat → Option Nat} (h : StoreI ok K w g c nf free N Mm V) (hSM : ∃ es cl, w.heap[g.SM]? = some (.map es cl)) : ¬ StoreF g nf free N Mm V g.SM := fun hx => by
  obtain ⟨es, cl, q⟩ := hSM
  obtain ⟨arr, o0, _⟩ := h.obj
  obtain ⟨parr, r0, _⟩ := h.pool.row
  rcases hx with hx | hx | hx | (⟨p, a, hp, hx⟩ | ⟨p, hp, hm⟩) | ⟨i, hi, hx⟩ | ⟨p, hp⟩
  · rw [hx, o0] at q; cases q
  · rw [hx, h.pool.obj] at q; cases q
  · rw [hx, r0] at q; cases q
  · obtain ⟨arr2, ty, n0, _⟩ := h.tree.node p a hp
    rw [hx, n0] at q; cases q
  · exact h.smap p hp hm
  · rw [hx, h.pool.blank i hi] at q; cases q
  · obtain ⟨q1, _, _⟩ := h.whole p _ hp
    obtain ⟨v, q4⟩ := q1.ty
    rw [q4] at q; cases q

theorem LayF.store {g : Parts} {nf : Nat} {free : Nat → Nat} {N : List Nat → Option (Nat × Nat)} {Mm : List Nat → Option Nat} (V : List Nat → Option Nat) {x : Nat} (hx : LayF g nf free N Mm x) : StoreF g nf free N Mm V x := by
  rcases hx with hx | hx | hx | hx
  · exact .inr (.inl hx)
  · exact .inr (.inr (.inl hx))
  · exact .inr (.inr (.inr (.inl hx)))
  · exact .inr (.inr (.inr (.inr (.inl hx))))

/-- Blocks that are being put in a row. -/
def SeqRow (base : Nat) (ok : Nat → Prop) (w : World) (v : Value) (c : Cfg) (T : List Nat) (k : Nat) (blk : Nat → Nat) : Prop :=
  w.ownsRow base 78 1 v k ((List.range k).map fun i => .pointer (some ⟨blk i, 0, none⟩)) ∧ ∀ i, i < k → BlockI ok w (blk i) c T (posOf c.slots T.length i) (posOf c.slots T.length (i + 1) - posOf c.slots T.length i)

theorem SeqRow.seq {base : Nat} {ok : Nat → Prop} {w : World} {v : Value} {c : Cfg} {T : List Nat} {k : Nat} {blk : Nat → Nat} (h : SeqRow base ok w v c T k blk) : (k = 0 ∧ v = .slice none 0 0) ∨ SeqI ok w v c T k blk ∧ ∃ b, v.ownBlock = some b ∧ base ≤ b := by
  obtain ⟨⟨_, ⟨e1, e⟩ | ⟨g, cap, cur, rfl, hg, hh, q1, q2, q3, q4⟩⟩, h2⟩ := h
  · exact .inl ⟨e, e1⟩
  · refine .inr ⟨⟨⟨g, cap, cur, _, rfl, q1, q2, hh, fun i hi => ?_⟩, h2⟩, g, rfl, hg⟩
    have h1 := congrArg (fun l => l[i]?) q4
    simp [hi] at h1
    simpa using h1

theorem cells_nil (w : World) : Calls Try.prog 62 #[.slice none 0 0] w fun e w' => e = .returned (.slice none 0 0) ∧ w' = w := by
  go_enter Try.func62, Try.ntmps62
  go_wp2
  go_loopw [3, 10] (fun o i wr => o = .slice none 0 0 ∧ i = .int .i64 0 ∧ wr = w) (fun _ _ _ => 0)
  case atStart => exact ⟨rfl, rfl, rfl⟩
  case round =>
    obtain ⟨rfl, rfl, rfl⟩ := hrel
    go_wp2
    go_ret
    exact ⟨rfl, rfl⟩

theorem cells_row (ok : Nat → Prop) (c : Cfg) (T : List Nat) (k : Nat) (blk : Nat → Nat) (v : Value) (base : Nat) (w : World) (h : SeqRow base ok w v c T k blk) (hs1 : 1 ≤ c.slots) (hs2 : c.slots ≤ 4) (hT : T.length ≤ 1000) (hk : k ≤ 1000) :
    Calls Try.prog 62 #[v] w fun e w' => ∃ r, e = .returned r ∧ CellsI w.heap.size ok w' r c T (posOf c.slots T.length k) ∧ Below w.heap.size w w' := by
  rcases h.seq with ⟨rfl, rfl⟩ | ⟨h, _⟩
  · refine (cells_nil w).mono ?_
    rintro e w1 ⟨rfl, rfl⟩
    exact ⟨_, rfl, CellsI.nil _ _ _ _ _ (by unfold posOf; simp), Below.refl _ _⟩
  · exact cells_any ok c T k blk v w h hs1 hs2 hT hk

theorem owns_only {F : Nat → Prop} {w w' : World} {base : Nat} {e : TypeId} {size : Nat} {v : Value} {n : Nat} {xs : List Value} (h : w.ownsRow base e size v n xs) (ho : Only F w w') (hF : ∀ b, v.ownBlock = some b → ¬ F b) : w'.ownsRow base e size v n xs := by
  obtain ⟨h1, h2 | ⟨g, cap, cur, e', hg, hh, rest⟩⟩ := h
  · exact ⟨h1, .inl h2⟩
  · exact ⟨h1, .inr ⟨g, cap, cur, e', hg, (ho.block g (lt_blk hh) (hF g (by rw [e']; rfl))).trans hh, rest⟩⟩

/-- Tokens are being laid: the store is as far as m blocks, the row as far as k. -/
structure LayP (ok : Nat → Prop) (W wr : World) (g : Parts) (c : Cfg) (nf : Nat) (free : Nat → Nat) (N : List Nat → Option (Nat × Nat)) (Mm : List Nat → Option Nat) (V : List Nat → Option Nat) (T : List Nat) (m k : Nat) (v : Value) (blk : Nat → Nat)
    (K' : Nat) (N' : List Nat → Option (Nat × Nat)) (M' : List Nat → Option Nat) (V' : List Nat → Option Nat) : Prop where
  store : StoreI ok K' wr g c (nf - anewTo c V T m) free N' M' V'
  row : SeqRow W.heap.size ok wr v c T k blk
  only : Only (LayF g nf free N Mm) W wr
  foot : ∀ x, TFoot N' M' x → TFoot N Mm x ∨ W.heap.size ≤ x
  used : ∀ i, i < k → ∀ j, j < nf - anewTo c V T m → free j ≠ blk i
  more : ∀ p, m * c.slots < p.length → V' p = V p
  told : ∀ p, (V' p).isSome = true ↔ (V p).isSome = true ∨ ∃ j, j < m ∧ (j + 1) * c.slots ≤ T.length ∧ p = T.take ((j + 1) * c.slots)
  from' : ∀ p B, V' p = some B → V p = some B ∨ ∃ j, j < nf ∧ B = free j
  blks : ∀ i, i < k → (∃ p, V p = some (blk i)) ∨ ∃ j, j < nf ∧ blk i = free j

section
variable {ok : Nat → Prop} {K : Nat} {W wr w3 w4 : World} {g : Parts} {c : Cfg} {nf : Nat} {free : Nat → Nat} {N N' : List Nat → Option (Nat × Nat)} {Mm M' : List Nat → Option Nat} {V V' : List Nat → Option Nat} {T : List Nat} {m k K' : Nat} {v : Value} {blk : Nat → Nat}

theorem LayP.drewN (h : LayP ok W wr g c nf free N Mm V T m k v blk K' N' M' V') (q : Nat) : LayP ok W (wr.drewN q) g c nf free N Mm V T m k v blk K' N' M' V' :=
  ⟨h.store.drewN q, ⟨h.row.1, h.row.2⟩, h.only.drewN q, h.foot, h.used, h.more, h.told, h.from', h.blks⟩

theorem pos_at {s n k : Nat} (h : k * s ≤ n) : posOf s n k = k * s := by unfold posOf; omega

theorem LayP.there (h : LayP ok W wr g c nf free N Mm V T k k v blk K' N' M' V') (hs : 1 ≤ c.slots) {B : Nat} (hS : wholeAt c V T (k * c.slots) = some B) :
    LayP ok W wr g c nf free N Mm V T (k + 1) k v blk K' N' M' V' ∧ BlockI ok wr B c T (posOf c.slots T.length k) (posOf c.slots T.length (k + 1) - posOf c.slots T.length k) ∧ (∀ j, j < nf - anewTo c V T (k + 1) → free j ≠ B) ∧ ∃ p, V p = some B := by
  have ha : anewTo c V T (k + 1) = anewTo c V T k := by simp [anewTo, hS]
  unfold wholeAt at hS
  split at hS
  · rename_i hfit
    have e1 : k * c.slots + c.slots = (k + 1) * c.slots := by rw [Nat.add_mul]; omega
    have hlen : (T.take (k * c.slots + c.slots)).length = k * c.slots + c.slots := by simp; omega
    have hV' : V' (T.take (k * c.slots + c.slots)) = some B := by rw [h.more _ (by rw [hlen]; omega)]; exact hS
    obtain ⟨q1, q2, q3⟩ := h.store.whole _ _ hV'
    refine ⟨⟨by rw [ha]; exact h.store, h.row, h.only, h.foot, fun i hi j hj => h.used i hi j (by omega), fun p hp => h.more p (by rw [Nat.add_mul] at hp; omega), fun p => ?_, h.from', h.blks⟩, ?_, fun j hj => q2 j (by omega), _, hS⟩
    · rw [h.told p]
      constructor
      · rintro (q | ⟨j, hj, q⟩)
        · exact .inl q
        · exact .inr ⟨j, by omega, q⟩
      · rintro (q | ⟨j, hj, q, rfl⟩)
        · exact .inl q
        · by_cases e : j = k
          · subst e
            left
            rw [← e1, hS]; rfl
          · exact .inr ⟨j, by omega, q, rfl⟩
    · rw [pos_at (by omega), pos_at (by omega), ← e1, show k * c.slots + c.slots - k * c.slots = c.slots by omega]
      rw [hlen, show k * c.slots + c.slots - c.slots = k * c.slots by omega] at q1
      exact q1.congr (fun i hi => tkN_take T _ i hi)
  · cases hS

theorem LayP.base (h : LayP ok W wr g c nf free N Mm V T m k v blk K' N' M' V') : W.heap.size ≤ wr.heap.size := h.only.size

theorem LayP.fill (h0 : StoreI ok K W g c nf free N Mm V) (h : LayP ok W wr g c nf free N Mm V T k k v blk K' N' M' V') (hs : 1 ≤ c.slots) (hS : wholeAt c V T (k * c.slots) = none) {nf' en : Nat} (hnf : nf - anewTo c V T k = nf' + 1) {e : Ending} (hlt : k * c.slots < T.length)
    (hen : (k * c.slots + c.slots ≤ T.length ∧ en = k * c.slots + c.slots) ∨ (T.length < k * c.slots + c.slots ∧ en = T.length)) (hf : Filled ok K' g c nf' free N' M' V' T (k * c.slots) en wr e w3) :
    e = .returned (.pointer (some ⟨free nf', 0, none⟩)) ∧ BlockI ok w3 (free nf') c T (posOf c.slots T.length k) (posOf c.slots T.length (k + 1) - posOf c.slots T.length k) ∧ (∀ j, j < nf - anewTo c V T (k + 1) → free j ≠ free nf') ∧ nf' < nf ∧
      ∃ K3 N3 M3 V3, LayP ok W w3 g c nf free N Mm V T (k + 1) k v blk K3 N3 M3 V3 := by
  obtain ⟨he, ho, hb, K3, N3, M3, hst, hft⟩ := hf
  have ha : anewTo c V T (k + 1) = anewTo c V T k + 1 := by simp [anewTo, hS]
  have hn : nf - anewTo c V T (k + 1) = nf' := by omega
  have e1 : k * c.slots + c.slots = (k + 1) * c.slots := by rw [Nat.add_mul]; omega
  have hst1 := h.store
  rw [hnf] at hst1
  have hkp := hst1.keepF ho
  have hsz := h.only.size
  obtain ⟨parr, r0, _⟩ := hst1.pool.row
  have hbk := hst1.pool.blank nf' (by omega)
  have hFB : g.FB < W.heap.size := h0.ltF (.inr (.inr (.inl rfl)))
  have far : ∀ i, i < k → w3.heap[blk i]? = wr.heap[blk i]? := fun i hi => by
    obtain ⟨u, q⟩ := (h.row.2 i hi).ty
    refine ho.block _ (lt_blk q) (fun hh => ?_)
    rcases hh with hh | hh | hh | hh
    · exact blk_ne q hst1.pool.obj (by decide) hh
    · exact blk_ne q r0 (by decide) hh
    · exact h.used i hi nf' (by omega) hh.symm
    · exact hst1.tree.foot_ne hh q (by decide) (by decide) rfl
  refine ⟨he, ?_, fun j hj e => ?_, by omega, K3, N3, M3, _, ⟨by rw [hn]; exact hst, ⟨owns_only h.row.1 ho (fun b hb hh => ?_), fun i hi => (h.row.2 i hi).keep (far i hi) hkp⟩, h.only.trans ho (fun x hx hh => ?_), fun x hx => ?_, fun i hi j hj => h.used i hi j (by omega), fun p hp => ?_, fun p => ?_, fun p B hp => ?_, h.blks⟩⟩
  · rw [pos_at (by omega)]
    have : posOf c.slots T.length (k + 1) = en := by unfold posOf; rw [← e1]; omega
    rw [this]; exact hb
  · rw [hn] at hj
    have := hst1.pool.inj j nf' (by omega) (by omega) e
    omega
  · have hge : W.heap.size ≤ b := (h.row.1.lt b hb).1
    have hty : ∃ arr fr, wr.heap[b]? = some (.cells arr 78 fr) := by
      obtain ⟨⟨_, ⟨e1, e⟩ | ⟨g', cap, cur, e3, hg, hh1, _⟩⟩, _⟩ := h.row
      · rw [e1] at hb; cases hb
      · rw [e3] at hb; injection hb with hb; subst hb; exact ⟨_, _, hh1⟩
    obtain ⟨arr, fr, q⟩ := hty
    rcases hh with hh | hh | hh | hh
    · exact blk_ne q hst1.pool.obj (by decide) hh
    · omega
    · exact blk_ne q hbk (by decide) hh
    · exact hst1.tree.foot_ne hh q (by decide) (by decide) rfl
  · rcases hh with hh | hh | hh | hh
    · exact .inl hh
    · exact .inr (.inl hh)
    · exact .inr (.inr (.inr ⟨nf', by omega, hh⟩))
    · rcases h.foot x hh with q | q
      · exact .inr (.inr (.inl q))
      · omega
  · rcases hft x hx with q | q
    · exact h.foot x q
    · exact .inr (by omega)
  · rw [← e1] at hp
    have q := h.more p (by omega)
    split
    · rename_i hfit
      by_cases e : p = T.take (k * c.slots + c.slots)
      · rw [e] at hp; simp at hp; omega
      · simp only [if_neg e]; exact q
    · exact q
  · have q := h.told p
    split
    · rename_i hfit
      by_cases e : p = T.take (k * c.slots + c.slots)
      · simp only [if_pos e, Option.isSome_some, true_iff]
        exact .inr ⟨k, by omega, by omega, by rw [← e1]; exact e⟩
      · simp only [if_neg e]
        rw [q]
        constructor
        · rintro (q | ⟨j, hj, q⟩)
          · exact .inl q
          · exact .inr ⟨j, by omega, q⟩
        · rintro (q | ⟨j, hj, q1, q2⟩)
          · exact .inl q
          · by_cases ej : j = k
            · subst ej; rw [← e1] at q2; exact absurd q2 e
            · exact .inr ⟨j, by omega, q1, q2⟩
    · rename_i hfit
      rw [q]
      constructor
      · rintro (q | ⟨j, hj, q⟩)
        · exact .inl q
        · exact .inr ⟨j, by omega, q⟩
      · rintro (q | ⟨j, hj, q1, q2⟩)
        · exact .inl q
        · by_cases ej : j = k
          · subst ej; omega
          · exact .inr ⟨j, by omega, q1, q2⟩
  · have q := h.from' p B
    split at hp
    · by_cases e : p = T.take (k * c.slots + c.slots)
      · simp only [if_pos e] at hp
        injection hp with hp
        exact .inr ⟨nf', by omega, hp.symm⟩
      · simp only [if_neg e] at hp
        exact q hp
    · exact q hp

theorem LayP.push (h0 : StoreI ok K W g c nf free N Mm V) (h : LayP ok W w3 g c nf free N Mm V T (k + 1) k v blk K' N' M' V') {B : Nat} {v4 : Value} (hB : BlockI ok w3 B c T (posOf c.slots T.length k) (posOf c.slots T.length (k + 1) - posOf c.slots T.length k))
    (hfr : ∀ j, j < nf - anewTo c V T (k + 1) → free j ≠ B) (hBf : (∃ p, V p = some B) ∨ ∃ j, j < nf ∧ B = free j)
    (hown : w4.ownsRow W.heap.size 78 1 v4 (k + 1) ((List.range k).map (fun i => Value.pointer (some ⟨blk i, 0, none⟩)) ++ [.pointer (some ⟨B, 0, none⟩)])) (hg : (w3.alloc (.cells #[.pointer (some ⟨B, 0, none⟩)] 78)).grownBy w4 v.ownBlock) :
    LayP ok W w4 g c nf free N Mm V T (k + 1) (k + 1) v4 (fun i => if i = k then B else blk i) K' N' M' V' := by
  have hsz := h.only.size
  have hFB : g.FB < W.heap.size := h0.ltF (.inr (.inr (.inl rfl)))
  have hge : ∀ b, v.ownBlock = some b → W.heap.size ≤ b := fun b hb => (h.row.1.lt b hb).1
  have ho : Only (fun x => v.ownBlock = some x) w3 w4 := ((Only.refl _ _).alloc _).grown hg (fun b hb _ => hb)
  have hty : ∀ b, v.ownBlock = some b → ∃ arr fr, w3.heap[b]? = some (.cells arr 78 fr) := fun b hb => by
    obtain ⟨⟨_, ⟨e1, e⟩ | ⟨g', cap, cur, e3, hg, hh, _⟩⟩, _⟩ := h.row
    · rw [e1] at hb; cases hb
    · rw [e3] at hb; injection hb with hb; subst hb; exact ⟨_, _, hh⟩
  have hkp : ∀ e, immT e → KeepT e w3 w4 := fun e he => ho.keep (fun x cur fr hx hh => by
    obtain ⟨arr, fr', q⟩ := hty x hx
    rw [q] at hh; injection hh with hh; injection hh with _ hh _; exact he.ne.2.2.1 hh.symm)
  have far : ∀ b arr fr, w3.heap[b]? = some (Obj.cells arr 90 fr) → w4.heap[b]? = w3.heap[b]? := fun b arr fr q => ho.block b (lt_blk q) (fun hh => by
    obtain ⟨arr', fr', q'⟩ := hty b hh
    exact blk_ne q q' (by decide) rfl)
  refine ⟨h.store.keepA (fun x hx => ho.block x (h.store.ltF hx) (fun hh => ?_)) hkp, ⟨?_, fun i hi => ?_⟩, h.only.trans ho (fun x hx hh => by have := hge x hh; omega), h.foot, fun i hi j hj => ?_, h.more, h.told, h.from', fun i hi => ?_⟩
  · obtain ⟨arr, fr, q⟩ := hty x hh
    have := hge x hh
    rcases h.store.kindF hx q with e | e | ⟨_, e⟩ | e | e
    · exact absurd e (by decide)
    · exact absurd e (by decide)
    · omega
    · exact absurd e (by decide)
    · exact absurd e (by decide)
  · have e8 : (List.range (k + 1)).map (fun i => Value.pointer (some ⟨if i = k then B else blk i, 0, none⟩)) = (List.range k).map (fun i => Value.pointer (some ⟨blk i, 0, none⟩)) ++ [.pointer (some ⟨B, 0, none⟩)] := by
      rw [range_map_succ, if_pos rfl]
      congr 1
      apply List.map_congr_left
      intro i hi
      rw [if_neg (by have := List.mem_range.1 hi; omega)]
    rw [e8]; exact hown
  · by_cases e : i = k
    · subst e
      simp only [if_true]
      obtain ⟨u, q⟩ := hB.ty
      exact hB.keep (far _ _ _ q) hkp
    · simp only [if_neg e]
      obtain ⟨u, q⟩ := (h.row.2 i (by omega)).ty
      exact (h.row.2 i (by omega)).keep (far _ _ _ q) hkp
  · by_cases e : i = k
    · simp only [if_pos e]; exact hfr j hj
    · simp only [if_neg e]; exact h.used i (by omega) j hj
  · by_cases e : i = k
    · simp only [if_pos e]; exact hBf
    · simp only [if_neg e]; exact h.blks i (by omega)
end

/-- What lay has done. -/
def Laid (ok : Nat → Prop) (W wr : World) (g : Parts) (c : Cfg) (nf : Nat) (free : Nat → Nat) (N : List Nat → Option (Nat × Nat)) (Mm : List Nat → Option Nat) (V : List Nat → Option Nat) (T : List Nat) (k : Nat) (v : Value) : Prop :=
  ∃ blk K' N' M' V', LayP ok W wr g c nf free N Mm V T k k v blk K' N' M' V'

theorem Laid.form {ok : Nat → Prop} {W wr : World} {g : Parts} {c : Cfg} {nf : Nat} {free : Nat → Nat} {N : List Nat → Option (Nat × Nat)} {Mm : List Nat → Option Nat} {V : List Nat → Option Nat} {T : List Nat} {k : Nat} {v : Value} (h : Laid ok W wr g c nf free N Mm V T k v) : ∃ a cp, v = .slice a k cp := by
  obtain ⟨blk, K', N', M', V', h⟩ := h
  obtain ⟨⟨_, ⟨rfl, e⟩ | ⟨g', cap, cur, rfl, _⟩⟩, _⟩ := h.row
  · exact ⟨none, 0, by rw [e]⟩
  · exact ⟨_, cap, rfl⟩

theorem anewTo_mono (c : Cfg) (V : List Nat → Option Nat) (T : List Nat) {i j : Nat} (h : i ≤ j) : anewTo c V T i ≤ anewTo c V T j := by
  induction h with
  | refl => exact Nat.le_refl _
  | step _ ih => refine Nat.le_trans ih ?_; simp only [anewTo]; split <;> omega

set_option maxRecDepth 100000 in
set_option maxHeartbeats 2000000 in
theorem lay_any (ok : Nat → Prop) (K : Nat) (g : Parts) (c : Cfg) (hc : c.ok) (nf : Nat) (free : Nat → Nat) (N : List Nat → Option (Nat × Nat)) (Mm : List Nat → Option Nat) (V : List Nat → Option Nat) (T : List Nat) (vt : Value) (w : World)
    (h : StoreI ok K w g c nf free N Mm V) (hSM : ∃ es cl, w.heap[g.SM]? = some (.map es cl)) (hT : TokT w vt T) (hb : ∀ t ∈ T, t < c.vocab) (hl : T.length ≤ 40) (hok : ∀ b, w.heap.size ≤ b → ok b) (hneed : anewTo c V T (nbOf c.slots T.length) ≤ nf) :
    Calls Try.prog 36 #[.pointer (some ⟨g.X, 0, none⟩), vt] w fun e w' => ∃ v, e = .returned v ∧ Laid ok w w' g c nf free N Mm V T (nbOf c.slots T.length) v := by
  obtain ⟨i0, hi, hz0, hz1, hz2⟩ := info_parts Try.info_ptr
  obtain ⟨s1, s2⟩ := hc.slots
  obtain ⟨v1, v2⟩ := hc.vocab
  obtain ⟨ap, cp, rfl, hp1, hp2⟩ := hT.slice
  unfold maxLen at hp2
  have Hh := hide h
  have HT := hide hT
  have HSM := hide hSM
  have Hok := hide hok
  have Hneed := hide hneed
  have H0 : Laid ok w w g c nf free N Mm V T 0 (.slice none 0 0) := ⟨fun _ => 0, K, N, Mm, V, h, ⟨by simpa using World.ownsRow_nil _ _ _ _, fun i hi => absurd hi (by omega)⟩, Only.refl _ _, fun x hx => .inl hx, fun i hi => absurd hi (by omega), fun p _ => rfl, fun p => ⟨.inl, fun q => by
    rcases q with q | ⟨j, hj, _⟩
    · exact q
    · omega⟩, fun p B hp => .inl hp, fun i hi => absurd hi (by omega)⟩
  have HH0 := hide H0
  clear h hT hSM hok hneed H0
  go_enter Try.func36, Try.ntmps36
  go_wp2
  go_loopw [5, 6] (fun s i wr => ∃ (k f : Nat) (a : Option Addr) (cq : Nat), k ≤ nbOf c.slots T.length ∧ Hid (f = k * c.slots) ∧ f < T.length + c.slots ∧ i = .int .i64 f ∧ s = .slice a k cq ∧ Laid ok w wr g c nf free N Mm V T k (.slice a k cq)) (fun _ i _ => T.length + c.slots - (intOf i).toNat)
  case atStart => exact ⟨0, 0, none, 0, Nat.zero_le _, by show 0 = 0 * _; simp, by omega, rfl, rfl, HH0.out⟩
  case round =>
    clear HH0
    obtain ⟨k, f, a, cq, hk, Hf, hfl, rfl, rfl, hlaid⟩ := hrel
    have hkb : k ≤ 2000 := by
      have h1 : k * 1 ≤ k * c.slots := Nat.mul_le_mul_left _ s1
      have h2 := Hf.out
      omega
    by_cases hlt : f < T.length
    · have hk2 : k < nbOf c.slots T.length := (nbOf_lt s1).2 (by rw [← Hf.out]; exact hlt)
      obtain ⟨blk, K', N', M', V', hP⟩ := hlaid
      have hkp := Hh.out.keepS hP.only (fun x _ hx => hx.store V)
      have hTr : TokT wr (.slice ap T.length cp) T := HT.out.keep (hkp _ (by unfold immT; decide))
      have hb' : ∀ t ∈ T, t ≤ 1000 := fun t ht => by have := hb t ht; omega
      obtain ⟨arr, o0, _, o2, _⟩ := hP.store.obj
      have hX := lt_blk o0
      have hlen := nbOf_le c.slots T.length s1
      have hwa : wholeAt c V' T f = wholeAt c V T f := by
        unfold wholeAt
        split
        · rename_i hfit
          exact hP.more _ (by simp; rw [← Hf.out]; omega)
        · rfl
      have hsh := shared_any ok K' g c hc _ free N' M' V' T _ f wr hP.store hTr hb' (by omega) (by omega)
      rw [hwa] at hsh
      cases hS : wholeAt c V T f with
      | none =>
        rw [hS] at hsh
        simp only [blkV, Option.isSome_none] at hsh
        have hS' : wholeAt c V T (k * c.slots) = none := by rw [← Hf.out]; exact hS
        have ha : anewTo c V T (k + 1) = anewTo c V T k + 1 := by simp [anewTo, hS']
        have hle := anewTo_mono c V T (show k + 1 ≤ nbOf c.slots T.length from hk2)
        have hnd := Hneed.out
        obtain ⟨nf', hnf⟩ : ∃ nf', nf - anewTo c V T k = nf' + 1 := ⟨nf - anewTo c V T k - 1, by omega⟩
        obtain ⟨en, hen⟩ : ∃ en, (f + c.slots ≤ T.length ∧ en = f + c.slots) ∨ (T.length < f + c.slots ∧ en = T.length) := by
          by_cases hfit : f + c.slots ≤ T.length
          · exact ⟨_, .inl ⟨hfit, rfl⟩⟩
          · exact ⟨_, .inr ⟨by omega, rfl⟩⟩
        have hSMr : ∃ es cl, wr.heap[g.SM]? = some (.map es cl) := by
          obtain ⟨es, cl, q⟩ := HSM.out
          exact ⟨es, cl, (hP.only.block _ (lt_blk q) (fun hx => Hh.out.smF HSM.out (hx.store V))).trans q⟩
        have hbase := hP.only.size
        have hcl : ∀ q, Calls Try.prog 62 #[.slice a k cq] (wr.drewN q) fun e w' => ∃ r, e = .returned r ∧ CellsI wr.heap.size ok w' r c T f ∧ Below wr.heap.size (wr.drewN q) w' := fun q => by
          have h1 := cells_row ok c T k blk _ w.heap.size (wr.drewN q) (hP.drewN q).row s1 s2 (by omega) (by omega)
          rw [pos_at (by rw [← Hf.out]; omega), ← Hf.out] at h1
          exact h1
        have hfl2 : ∀ q w2 r, Below wr.heap.size (wr.drewN q) w2 → CellsI wr.heap.size ok w2 r c T f → Calls Try.prog 61 #[.pointer (some ⟨g.X, 0, none⟩), .slice ap T.length cp, .int .i64 f, r] w2 fun e w3 =>
            e = .returned (.pointer (some ⟨free nf', 0, none⟩)) ∧ BlockI ok w3 (free nf') c T (posOf c.slots T.length k) (posOf c.slots T.length (k + 1) - posOf c.slots T.length k) ∧ (∀ j, j < nf - anewTo c V T (k + 1) → free j ≠ free nf') ∧ nf' < nf ∧
              ∃ K3 N3 M3 V3, LayP ok w w3 g c nf free N Mm V T (k + 1) k (.slice a k cq) blk K3 N3 M3 V3 := fun q w2 r hb2 hc2 => by
          have hst := (hP.drewN q).store
          rw [hnf] at hst
          refine (fill_any ok K' g c hc nf' free N' M' V' T _ r f en (wr.drewN q) w2 hst hSMr hb2 hTr hb hl hlt (fun b hb => Hok.out b (Nat.le_trans hbase hb)) hc2 hen).mono ?_
          intro e w3 hfd
          exact LayP.fill Hh.out (hP.drewN q) s1 hS' hnf (by rw [← Hf.out]; exact hlt) (by rw [← Hf.out]; exact hen) (by rw [← Hf.out]; exact hfd)
        have Hsh := hide hsh
        have Hcl := hide hcl
        have Hfl := hide hfl2
        clear hsh hcl hfl2 hP hkp hTr hb' o0 o2 hSMr hen hS' ha hle hnd hwa hS
        go_wp2_with (first
          | (go_at_call 60; refine Hsh.out.mono ?_; rintro e w1 ⟨rfl, q1, rfl⟩)
          | (go_at_call 62; refine (Hcl.out q1).mono ?_; rintro e w2 ⟨r, rfl, hc2, hb2⟩; have Hc2 := hide hc2; have Hb2 := hide hb2; clear hc2 hb2)
          | (go_at_call 61; refine (Hfl.out q1 w2 r Hb2.out Hc2.out).mono ?_; rintro e w3 ⟨rfl, hB3, hfr3, hlt3, K3, N3, M3, V3, hP3⟩; have hrow3 := hP3.row.1; have hbase3 := hP3.only.size; have HB3 := hide hB3; have Hfr3 := hide hfr3; have HP3 := hide hP3; clear hB3 hfr3 hP3)
          | (at_builtin; refine wpList_append_lies _ rfl _ _ _ rfl w.heap.size 78 i0 _ 1 8 Try.underlying73 hi hz0 hz1 hz2 rfl (by omega) (.slice a k cq) k _ rfl (hrow3.alloc _) ⟨w3.heap.size, 0, none⟩ 1 1 [.pointer (some ⟨free nf', 0, none⟩)] rfl rfl (one_new w3 _ _) (by intro u hu; simp at hu; subst hu; rfl) (by omega) (by unfold maxLen; omega) (by omega) (by simp; omega) (w3.heap.size + 1) (by simp) ?_; intro gg cap w4 hown4 hgrow4 hat hlt4; have hP4 := LayP.push Hh.out HP3.out HB3.out Hfr3.out (.inr ⟨nf', hlt3, rfl⟩) hown4 hgrow4; have x4 := hP4.store.c1; have HP4 := hide hP4; clear hP4))
        go_roundw
        case rel => exact ⟨k + 1, f + c.slots, _, _, by omega, by show f + c.slots = (k + 1) * c.slots; rw [Nat.add_mul, Hf.out]; omega, by omega, by go_num, rfl, _, _, _, _, _, HP4.out⟩
        case measure => simp [intOf]; omega
      | some B =>
        rw [hS] at hsh
        simp only [blkV, Option.isSome_some] at hsh
        have hS' : wholeAt c V T (k * c.slots) = some B := by rw [← Hf.out]; exact hS
        obtain ⟨hP1, hB, hfr, hV⟩ := hP.there s1 hS'
        have hrow := hP1.row.1
        have hrowD : ∀ q, (wr.drewN q).ownsRow w.heap.size 78 1 (.slice a k cq) k ((List.range k).map fun i => .pointer (some ⟨blk i, 0, none⟩)) := fun q => hrow
        have hbase := hP1.only.size
        have Hsh := hide hsh
        have HP1 := hide hP1
        have HB := hide hB
        have Hfr := hide hfr
        have HV := hide hV
        clear hsh hP1 hB hfr hV hP hkp hTr hb' o0 o2
        go_wp2_with (first
          | (go_at_call 60; refine Hsh.out.mono ?_; rintro e w1 ⟨rfl, q1, rfl⟩)
          | (at_builtin; refine wpList_append_lies _ rfl _ _ _ rfl w.heap.size 78 i0 _ 1 8 Try.underlying73 hi hz0 hz1 hz2 rfl (by omega) (.slice a k cq) k _ rfl ((hrowD q1).alloc _) ⟨wr.heap.size, 0, none⟩ 1 1 [.pointer (some ⟨B, 0, none⟩)] rfl rfl (one_new (wr.drewN q1) _ _) (by intro u hu; simp at hu; subst hu; rfl) (by omega) (by unfold maxLen; omega) (by omega) (by simp; omega) (wr.heap.size + 1) (by simp) ?_; intro gg cap w4 hown4 hgrow4 hat hlt4; have hP4 := LayP.push Hh.out (HP1.out.drewN q1) HB.out Hfr.out (.inl HV.out) hown4 hgrow4; have x4 := hP4.store.c1; have HP4 := hide hP4; clear hP4))
        go_roundw
        case rel => exact ⟨k + 1, f + c.slots, _, _, by omega, by show f + c.slots = (k + 1) * c.slots; rw [Nat.add_mul, Hf.out]; omega, by omega, by go_num, rfl, _, _, _, _, _, HP4.out⟩
        case measure => simp [intOf]; omega
    · have hke : k = nbOf c.slots T.length := by
        have : ¬ k < nbOf c.slots T.length := fun h => hlt (by rw [Hf.out]; exact (nbOf_lt s1).1 h)
        omega
      go_wp2
      go_ret
      exact ⟨_, rfl, by rw [← hke]; exact hlaid⟩

end Go.Proofs.Ytaidjhlijadmiaa
