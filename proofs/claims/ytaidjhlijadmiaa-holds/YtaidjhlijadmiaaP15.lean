import Derived.Shelf.SlMaps.Clone
import Derived.Test.YtaidjhlijadmiaaP13
import Derived.Test.YtaidjhlijadmiaaP14

/-
  The program's tree by tokens: child, Put.
-/
namespace Go.Proofs.Ytaidjhlijadmiaa
open Go.RowKit
attribute [local go_sem ↓] Go.wp_at_zero Go.wp_at_succ

theorem TreeI.mono {K K' : Nat} {w : World} {F F' : Nat → Prop} {N : List Nat → Option (Nat × Nat)} {M : List Nat → Option Nat} {V : List Nat → Option Nat} (h : TreeI K w F N M V) (hK : K ≤ K') (hF : ∀ k, F k → F' k) : TreeI K' w F' N M V :=
  ⟨h.root, h.node, h.bare, fun p b hp hm => by
    obtain ⟨cnt, hc, hv⟩ := h.kids p b hp hm
    exact ⟨cnt, by omega, hv⟩, h.pre, h.inj, h.minj, h.told, fun p a hp => hF _ (h.foot p a hp), fun p b hp hm => hF _ (h.mfoot p b hp hm), h.kind⟩

/-- The store of a new child. -/
theorem TreeI.store {K : Nat} {w : World} {F : Nat → Prop} {N : List Nat → Option (Nat × Nat)} {M : List Nat → Option Nat} {V : List Nat → Option Nat} (h : TreeI K w F N M V) (p : List Nat) (t mb : Nat) (hp : N p ≠ none) (hm : M p = some mb) (hn : N (p ++ [t]) = none) (ht : t ≤ 1000) (hK : K ≤ 1000000) :
    ∃ w2, (Instr.mapUpdate 77 (.map (some mb)) (.int .i64 t) (.pointer (some ⟨w.heap.size, 0, none⟩))).run Try.prog (w.alloc (.cells #[.map none, .pointer none, .bool false] 80)) = .ok () w2 ∧
      TreeI (K + 1) w2 (fun k => F k ∨ w.heap.size ≤ k) (fun q => if q = p ++ [t] then some (w.heap.size, 0) else N q) (fun q => if q = p ++ [t] then none else M q) V ∧ Only F w w2 ∧ NodeOut N w w2 := by
  obtain ⟨cnt, hc, hv⟩ := h.kids p mb hp hm
  have hv1 : MapV Try.prog 3 (w.alloc (.cells #[.map none, .pointer none, .bool false] 80)) mb cnt (kidsOf N p) := hv.keep (alloc_old _ _ _ hv.lt)
  have hk0 : kidsOf N p t = none := by
    unfold kidsOf
    rw [if_pos (by omega), Int.toNat_natCast, hn]; rfl
  obtain ⟨w2, hrun, hv2, hg, _⟩ := hv1.store Try.underlying3 Try.underlying77 (by unfold maxLen; omega) t (int_wf t (by omega) (by omega)) hk0 (.pointer (some ⟨w.heap.size, 0, none⟩))
  obtain ⟨q1, q2, q3⟩ := h.addNode p t mb (cnt + 1) hp hm hn (by omega) hg hv2
  exact ⟨w2, hrun, q1, q2, q3⟩

/-- What child and Put do to the nodes: there are more of them. -/
structure TreeMore (K : Nat) (w w' : World) (F : Nat → Prop) (N N' : List Nat → Option (Nat × Nat)) (V' : List Nat → Option Nat) : Prop where
  tree : ∃ M', TreeI K w' (fun k => F k ∨ w.heap.size ≤ k) N' M' V'
  only : Only F w w'
  more : ∀ q a, N q = some a → N' q = some a
  out : NodeOut N w w'

set_option maxRecDepth 100000 in
set_option maxHeartbeats 2000000 in
theorem child_any (K : Nat) (F : Nat → Prop) (N : List Nat → Option (Nat × Nat)) (M : List Nat → Option Nat) (V : List Nat → Option Nat) (p : List Nat) (t b off : Nat) (w : World) (h : TreeI K w F N M V) (hp : N p = some (b, off)) (ht : t ≤ 1000) (hK : K ≤ 1000000) :
    Calls Try.prog 91 #[.pointer (some ⟨b, off, none⟩), .int .i64 t] w fun e w' =>
      ∃ (a : Nat × Nat) (N' : List Nat → Option (Nat × Nat)), e = .returned (.pointer (some ⟨a.1, a.2, none⟩)) ∧ N' (p ++ [t]) = some a ∧ TreeMore (K + 1) w w' F N N' V := by
  obtain ⟨arr, ty, n0, n1, n2, n3⟩ := h.node p _ hp
  simp only [] at n0 n1 n2 n3
  have c0 : w.cell? ⟨b, off, none⟩ = some (.map (M p)) := by rw [cell_blk n0]; exact n1
  have f0 := frozen_blk n0 off
  have hpn : N p ≠ none := by rw [hp]; simp
  have hwf := int_wf t (by omega) (by omega)
  have hbl := lt_blk n0
  have hnil := fun w r => run_eql_map_nil_sl (P := Try.prog) w 77 _ _ r Try.underlying77
  cases hm : M p with
  | some mb =>
    rw [hm] at c0
    have hlook := h.look p hpn t ht
    rw [hm] at hlook
    cases hn : N (p ++ [t]) with
    | some a =>
      rw [hn] at hlook
      simp only [nodeV, Option.getD_some, Option.isSome_some] at hlook
      have Hn := hide hn
      clear hn
      go_enter Try.func91, Try.ntmps91
      go_wp2
      go_ret
      exact ⟨a, N, rfl, Hn.out, ⟨⟨M, h.mono (by omega) (fun _ h => .inl h)⟩, Only.refl _ _, fun _ _ h => h, NodeOut.refl _ _⟩⟩
    | none =>
      rw [hn] at hlook
      simp only [nodeV, Option.getD_none, Option.isSome_none] at hlook
      obtain ⟨w2, hrun, ht2, ho2, hno2⟩ := h.store p t mb hpn hm hn ht hK
      have c1 : ∀ o, (w.alloc o).cell? ⟨b, off, none⟩ = some (.map (some mb)) := fun o => (World.cell?_alloc_past _ _ _ hbl).trans c0
      have Hn := hide hn
      clear hn
      go_enter Try.func91, Try.ntmps91
      go_wp2
      go_ret
      refine ⟨(w.heap.size, 0), _, rfl, ?_, ⟨⟨_, ht2⟩, ho2, fun q a hq => ?_, hno2⟩⟩
      · rw [if_pos rfl]
      · have hne : q ≠ p ++ [t] := fun e => by rw [e, Hn.out] at hq; cases hq
        simp only [if_neg hne]; exact hq
  | none =>
    rw [hm] at c0
    have hn := h.bare p hpn hm t
    obtain ⟨hA, hoA, hnA⟩ := h.addMap p b off hp hm
    have hsw : (w.alloc (.map #[] 0)).setCell ⟨b, off, none⟩ (.map (some w.heap.size)) = (w.setCell ⟨b, off, none⟩ (.map (some w.heap.size))).alloc (.map #[] 0) := by go_simp
    rw [hsw] at hA hoA hnA
    have hmA : (fun q => if q = p then some w.heap.size else M q) p = some w.heap.size := by simp
    have hlook : (Instr.lookup 77 (.map (some w.heap.size)) (.int .i64 t) true).run Try.prog ((w.setCell ⟨b, off, none⟩ (.map (some w.heap.size))).alloc (.map #[] 0)) = .ok (.tuple #[.pointer none, .bool false]) ((w.setCell ⟨b, off, none⟩ (.map (some w.heap.size))).alloc (.map #[] 0)) := by
      have q := hA.look p hpn t ht
      rw [hn] at q
      simpa [nodeV] using q
    have hsz2 : ((w.setCell ⟨b, off, none⟩ (.map (some w.heap.size))).alloc (.map #[] 0)).heap.size = w.heap.size + 1 := by simp [World.setCell]
    obtain ⟨w2, hrun, ht2, ho2, hno2⟩ := hA.store p t w.heap.size hpn hmA hn ht hK
    rw [hsz2] at hrun ht2
    obtain ⟨arr', ty', m0, m1, _, _⟩ := hA.node p _ hp
    simp only [if_true] at m0 m1
    have f1 : ∀ o, (w.alloc o).frozen? ⟨b, off, none⟩ = false := fun o => (World.frozen?_alloc_past _ _ _ hbl).trans f0
    have c1 : ∀ o, (w.alloc o).cell? ⟨b, off, none⟩ = some (.map none) := fun o => (World.cell?_alloc_past _ _ _ hbl).trans c0
    have c2 : ((w.setCell ⟨b, off, none⟩ (.map (some w.heap.size))).alloc (.map #[] 0)).cell? ⟨b, off, none⟩ = some (.map (some w.heap.size)) := by rw [cell_blk m0]; exact m1
    have c3 : ∀ o, (((w.setCell ⟨b, off, none⟩ (.map (some w.heap.size))).alloc (.map #[] 0)).alloc o).cell? ⟨b, off, none⟩ = some (.map (some w.heap.size)) := fun o => (World.cell?_alloc_past _ _ _ (by rw [hsz2]; show b < _; omega)).trans c2
    have Hn := hide hn
    clear hn
    have hmm := fun w => run_makeMap (P := Try.prog) 77 w
    clear hsw
    go_enter Try.func91, Try.ntmps91
    go_wp2
    go_ret
    refine ⟨w.heap.size + 1, 0, rfl, _, ?_, ⟨⟨_, ht2.mono (Nat.le_refl _) ?_⟩, ?_, fun q a hq => ?_, hnA.trans hno2 (fun _ _ h => h)⟩⟩
    · rw [if_pos rfl]
    · intro k hk
      rcases hk with (hk | hk) | hk
      · exact .inl hk
      · exact .inr hk
      · right; omega
    · exact hoA.trans ho2 (fun k hk h => by rcases h with h | h; exact h; omega)
    · have hne : q ≠ p ++ [t] := fun e => by rw [e, Hn.out] at hq; cases hq
      simp only [if_neg hne]; exact hq

/-- A node tells a block. -/
theorem TreeI.setV {K : Nat} {w : World} {F : Nat → Prop} {N : List Nat → Option (Nat × Nat)} {M : List Nat → Option Nat} {V : List Nat → Option Nat} (h : TreeI K w F N M V) (p : List Nat) (a1 a2 B : Nat) (hp : N p = some (a1, a2)) :
    TreeI K ((w.setCell ⟨a1, a2 + 1, none⟩ (blkV (some B))).setCell ⟨a1, a2 + 2, none⟩ (.bool true)) F N M (fun q => if q = p then some B else V q) ∧ Only F w ((w.setCell ⟨a1, a2 + 1, none⟩ (blkV (some B))).setCell ⟨a1, a2 + 2, none⟩ (.bool true)) ∧ NodeOut N w ((w.setCell ⟨a1, a2 + 1, none⟩ (blkV (some B))).setCell ⟨a1, a2 + 2, none⟩ (.bool true)) := by
  obtain ⟨arr, ty, n0, n1, n2, n3⟩ := h.node p _ hp
  simp only [] at n0 n1 n2 n3
  have far : ∀ k o, w.heap[k]? = some o → k ≠ a1 → ((w.setCell ⟨a1, a2 + 1, none⟩ (blkV (some B))).setCell ⟨a1, a2 + 2, none⟩ (.bool true)).heap[k]? = some o := fun k o hk hne => by
    rw [setCell_far _ _ _ _ _ hne, setCell_far _ _ _ _ _ hne]; exact hk
  have mapne : ∀ mb cnt g, MapV Try.prog 3 w mb cnt g → mb ≠ a1 := fun mb cnt g hv e => by
    obtain ⟨es, cl, ho⟩ := hv.obj
    rw [e, n0] at ho; cases ho
  refine ⟨⟨h.root, fun q a hq => ?_, h.bare, fun q b hq hm => ?_, h.pre, h.inj, h.minj, fun q hq => ?_, h.foot, h.mfoot, fun q a arr2 ty2 fr2 hq ha => ?_⟩, ((Only.refl F w).setCell (fun _ => h.foot p _ hp) _).setCell (fun _ => h.foot p _ hp) _, fun q a arr2 ty2 hq ha => ?_⟩
  · by_cases e : q = p
    · subst e
      rw [hp] at hq
      injection hq with hq
      subst hq
      have l1 := (Array.getElem?_eq_some_iff.1 n2).1
      have l2 := (Array.getElem?_eq_some_iff.1 n3).1
      refine ⟨(arr.setIfInBounds (a2 + 1) (blkV (some B))).setIfInBounds (a2 + 2) (.bool true), ty, setCell_blk (setCell_blk n0 _ _) _ _, ?_, ?_, ?_⟩
      · rw [Array.getElem?_setIfInBounds_ne (by simp), Array.getElem?_setIfInBounds_ne (by simp)]; exact n1
      · rw [Array.getElem?_setIfInBounds_ne (by simp)]; simp [l1]
      · simp [l2]
    · obtain ⟨arr', ty', m0, m1, m2, m3⟩ := h.node q a hq
      have hne : a.1 ≠ a1 := fun e' => e (h.inj q p a (a1, a2) hq hp e')
      exact ⟨arr', ty', far _ _ m0 hne, m1, by simp only [if_neg e]; exact m2, by simp only [if_neg e]; exact m3⟩
  · obtain ⟨cnt, hc, hv⟩ := h.kids q b hq hm
    refine ⟨cnt, hc, hv.keep ?_⟩
    obtain ⟨es, cl, ho⟩ := hv.obj
    rw [ho]; exact far _ _ ho (mapne _ _ _ hv)
  · by_cases e : q = p
    · subst e; rw [hp]; simp
    · simp only [if_neg e] at hq; exact h.told q hq
  · by_cases e : q = p
    · subst e
      rw [hp] at hq
      injection hq with hq
      subst hq
      rw [setCell_blk (setCell_blk n0 _ _)] at ha
      injection ha with ha
      injection ha with _ ha _
      rw [← ha]; exact h.kind q _ arr ty _ hp n0
    · obtain ⟨arr', ty', m0, _⟩ := h.node q a hq
      rw [far _ _ m0 (fun e' => e (h.inj q p a (a1, a2) hq hp e'))] at ha
      injection ha with ha
      injection ha with _ ha _
      rw [← ha]; exact h.kind q a arr' ty' _ hq m0
  · by_cases e : q = p
    · subst e
      rw [hp] at hq
      injection hq with hq
      subst hq
      simp only [] at ha
      rw [n0] at ha
      injection ha with ha
      injection ha with ha1 ha2 _
      subst ha1 ha2
      refine ⟨_, setCell_blk (setCell_blk n0 _ _) _ _, by simp, fun j hj => ?_⟩
      simp at hj
      rw [Array.getElem?_setIfInBounds_ne (by omega), Array.getElem?_setIfInBounds_ne (by omega)]
    · exact ⟨arr2, far _ _ ha (fun e' => e (h.inj q p a (a1, a2) hq hp e')), rfl, fun _ _ => rfl⟩

set_option maxRecDepth 100000 in
set_option maxHeartbeats 2000000 in
theorem treeput_any (K : Nat) (F : Nat → Prop) (N : List Nat → Option (Nat × Nat)) (M : List Nat → Option Nat) (V : List Nat → Option Nat) (b off B : Nat) (T : List Nat) (vp : Value) (w : World) (h : TreeI K w F N M V) (hr : N [] = some (b, off)) (hT : TokT w vp T) (hb : ∀ t ∈ T, t ≤ 1000)
    (hFi : ∀ k cur fr, F k → w.heap[k]? ≠ some (.cells cur 3 fr)) (hTl : T.length ≤ 1000) (hK : K ≤ 500000) :
    Calls Try.prog 77 #[.pointer (some ⟨b, off, none⟩), vp, .pointer (some ⟨B, 0, none⟩)] w fun e w' =>
      e = .returned (.tuple #[]) ∧ ∃ N', TreeMore (K + T.length) w w' F N N' (fun q => if q = T then some B else V q) := by
  obtain ⟨ap, cp, rfl, hp1, hp2⟩ := hT.slice
  unfold maxLen at hp2
  have HT := hide hT
  clear hT
  go_enter Try.func77, Try.ntmps77
  go_wp2
  go_loopw [0, 10] (fun t i wr => ∃ (k : Nat) (a1 a2 : Nat) (N' : List Nat → Option (Nat × Nat)) (M' : List Nat → Option Nat), k ≤ T.length ∧ i = .int .i64 k ∧ N' (T.take k) = some (a1, a2) ∧ t = .pointer (some ⟨a1, a2, none⟩) ∧ TreeI (K + k) wr (fun j => F j ∨ w.heap.size ≤ j) N' M' V ∧ Only F w wr ∧ Hid (∀ q a, N q = some a → N' q = some a) ∧ Hid (NodeOut N w wr)) (fun _ i _ => T.length - (intOf i).toNat)
  case atStart => exact ⟨0, b, off, N, M, Nat.zero_le _, rfl, hr, rfl, h.mono (by omega) (fun _ h => .inl h), Only.refl _ _, fun _ _ h => h, NodeOut.refl _ _⟩
  case round =>
    obtain ⟨k, a1, a2, N', M', hk, rfl, hN, rfl, ht, ho, Hmore, Hout⟩ := hrel
    by_cases hlt : k < T.length
    · have hTr : TokT wr (.slice ap T.length cp) T := HT.out.keep (ho.keep hFi)
      obtain ⟨bp, op, rfl, hbp, hc⟩ : ∃ b off, ap = some ⟨b, off, none⟩ ∧ b < wr.heap.size ∧ ∀ j, j < T.length → wr.cell? ⟨b, off + j, none⟩ = some (.int .i64 (tkI T j)) := by
        obtain ⟨a', c', e, _, _, h3⟩ := hTr.ints
        injection e with e1 _ _
        subst e1
        exact h3 (by omega)
      have ck := hc k hlt
      unfold tkI at ck
      have htk : tkN T k ≤ 1000 := by
        refine hb _ ?_
        unfold tkN
        rw [List.getD_eq_getElem?_getD]
        simp [hlt]
      have e1 : T.take k ++ [tkN T k] = T.take (k + 1) := by rw [take_snoc' _ 0 _ hlt]; rfl
      have hch := child_any (K + k) _ N' M' V (T.take k) (tkN T k) a1 a2 wr ht hN htk (by omega)
      rw [e1] at hch
      have Hch := hide hch
      clear hch hc e1 hTr
      generalize tkN T k = tk at ck Hch
      go_wp2_with fail
      refine Hch.out.mono ?_
      rintro e w1 ⟨a, N'', rfl, hN'', ⟨M'', ht''⟩, ho'', hm'', hno''⟩
      obtain ⟨x1, x2⟩ := a
      have hsz := ho.size
      have HN'' := hide hN''
      have ht3 : TreeI (K + (k + 1)) w1 (fun j => F j ∨ w.heap.size ≤ j) N'' M'' V := ht''.mono (by omega) (fun j hj => by
        rcases hj with (hj | hj) | hj
        · exact .inl hj
        · exact .inr hj
        · right; omega)
      have ho3 : Only F w w1 := ho.trans ho'' (fun j hj h => by rcases h with h | h; exact h; omega)
      have hm3 : Hid (∀ q a, N q = some a → N'' q = some a) := fun q a hq => hm'' q a (Hmore.out q a hq)
      have Hout3 : Hid (NodeOut N w w1) := Hout.out.trans hno'' Hmore.out
      clear hN'' ht'' ho'' hm'' Hch hno''
      go_wp2
      go_roundw
      case rel => exact ⟨k + 1, x1, x2, N'', M'', by omega, by go_num, HN''.out, rfl, ht3, ho3, hm3, Hout3⟩
      case measure => simp [intOf]; omega
    · have hke : k = T.length := by omega
      have hall : T.take k = T := List.take_of_length_le (by omega)
      rw [hall] at hN
      obtain ⟨arr, ty, n0, n1, n2, n3⟩ := ht.node T _ hN
      simp only [] at n0 n1 n2 n3
      have c1 : wr.cell? ⟨a1, a2 + 1, none⟩ = some (blkV (V T)) := by rw [cell_blk n0]; exact n2
      have c2 : wr.cell? ⟨a1, a2 + 2, none⟩ = some (.bool (V T).isSome) := by rw [cell_blk n0]; exact n3
      have f1 := frozen_blk n0 (a2 + 1)
      have f2 := frozen_blk n0 (a2 + 2)
      obtain ⟨q1, q2, q3⟩ := ht.setV T a1 a2 B hN
      have H3 := hide q3
      subst hke
      have hsz := ho.size
      have H1 := hide q1
      have H2 := hide q2
      clear q1 q2 q3 hall hN
      go_wp2
      refine bodyPost_end (v := .tuple #[]) (by simp [results, Try.results77]) rfl ⟨rfl, N', ⟨M', H1.out⟩, ho.trans H2.out (fun j hj h => by rcases h with h | h; exact h; omega), Hmore.out, Hout.out.trans H3.out Hmore.out⟩

end Go.Proofs.Ytaidjhlijadmiaa

/-
  The reference's hoard: its sequences; find, used, tails, Stats.
-/
namespace Go.Proofs.Ytaidjhlijadmiaa
open Go.RowKit
attribute [local go_sem ↓] Go.wp_at_zero Go.wp_at_succ

def idAt (L : List (Int × List Nat)) (i : Nat) : Int := (L.getD i (0, [])).1
def toksAt (L : List (Int × List Nat)) (i : Nat) : List Nat := (L.getD i (0, [])).2

/-- A slice of the reference's sequences, with the numbers of their tails. -/
def SeqsI (w : World) (vL : Value) (L : List (Int × List Nat)) (tl : Nat → Nat) : Prop :=
  ∃ F : Nat → Value, w.ownsRow 0 112 3 vL L.length ((List.range (L.length * 3)).map F) ∧ ∀ i, i < L.length → F (i * 3) = .int .i64 (idAt L i) ∧ TokT w (F (i * 3 + 1)) (toksAt L i) ∧ F (i * 3 + 2) = .int .i64 (tl i)

/-- Every tail has its number, and none two the same. -/
structure TailsI (s : Nat) (L : List (Int × List Nat)) (tl : Nat → Nat) (nt : Nat) : Prop where
  none : ∀ i, i < L.length → (tl i = 0 ↔ (toksAt L i).length % s = 0)
  le : ∀ i, i < L.length → tl i ≤ nt
  apart : ∀ i j, i < L.length → j < i → tl i = tl j → tl i = 0

/-- The reference's hoard lies at Y. -/
structure RefI (w : World) (Y d : Nat) (c : Cfg) (L : List (Int × List Nat)) (tl : Nat → Nat) (nt : Nat) (vL : Value) : Prop where
  obj : w.heap[Y]? = some (.cells #[.pointer (some ⟨d, 0, none⟩), vL, .slice none 0 0, .int .i64 nt] 69 (0, 0))
  seqs : SeqsI w vL L tl
  dec : RefDec w d c
  tails : TailsI c.slots L tl nt
  many : L.length ≤ 8
  len : ∀ i, i < L.length → 1 ≤ (toksAt L i).length ∧ (toksAt L i).length ≤ 40
  toks : ∀ i, i < L.length → ∀ t ∈ toksAt L i, t < c.vocab

theorem SeqsI.below {w w' : World} {vL : Value} {L : List (Int × List Nat)} {tl : Nat → Nat} (h : SeqsI w vL L tl) (hb : Below w.heap.size w w') : SeqsI w' vL L tl := by
  obtain ⟨F, h1, h2⟩ := h
  exact ⟨F, owns_below' h1 hb, fun i hi => ⟨(h2 i hi).1, (h2 i hi).2.1.keep (KeepT.of_below hb), (h2 i hi).2.2⟩⟩

theorem RefI.below {w w' : World} {Y d : Nat} {c : Cfg} {L : List (Int × List Nat)} {tl : Nat → Nat} {nt : Nat} {vL : Value} (h : RefI w Y d c L tl nt vL) (hb : Below w.heap.size w w') : RefI w' Y d c L tl nt vL :=
  ⟨by rw [hb.block Y (lt_blk h.obj)]; exact h.obj, h.seqs.below hb, h.dec.below hb, h.tails, h.many, h.len, h.toks⟩

theorem SeqsI.cells {w : World} {vL : Value} {L : List (Int × List Nat)} {tl : Nat → Nat} (h : SeqsI w vL L tl) : ∃ a cap, vL = .slice a L.length cap ∧ L.length ≤ cap ∧ cap ≤ maxLen ∧
    (0 < L.length → ∃ g, a = some ⟨g, 0, none⟩ ∧ g < w.heap.size ∧ ∀ i, i < L.length → w.cell? ⟨g, i * 3, none⟩ = some (.int .i64 (idAt L i)) ∧ (∃ v, w.cell? ⟨g, i * 3 + 1, none⟩ = some v ∧ TokT w v (toksAt L i)) ∧ w.cell? ⟨g, i * 3 + 2, none⟩ = some (.int .i64 (tl i))) := by
  obtain ⟨F, ⟨_, ⟨rfl, e⟩ | ⟨g, cap, cur, rfl, hb, hg, hn, hm, hs, ht⟩⟩, h2⟩ := h
  · exact ⟨none, 0, by rw [e], by omega, by simp [maxLen], fun h0 => absurd h0 (by omega)⟩
  · refine ⟨_, cap, rfl, hn, hm, fun _ => ⟨g, rfl, lt_blk hg, fun i hi => ?_⟩⟩
    have cell : ∀ j, j < L.length * 3 → w.cell? ⟨g, j, none⟩ = some (F j) := fun j hj => by
      have h1 := congrArg (fun l => l[j]?) ht
      simp [hj] at h1
      rw [cell_blk hg]; simpa using h1
    obtain ⟨q1, q2, q3⟩ := h2 i hi
    exact ⟨by rw [cell _ (by omega), q1], ⟨_, cell _ (by omega), q2⟩, by rw [cell _ (by omega), q3]⟩

set_option maxRecDepth 100000 in
set_option maxHeartbeats 1000000 in
theorem reffind_any (Y : Nat) (id : Int) (vL : Value) (L : List (Int × List Nat)) (tl : Nat → Nat) (w : World) (hY : w.cell? ⟨Y, 1, none⟩ = some vL) (hL : SeqsI w vL L tl) (hn : L.length ≤ 1000) :
    Calls Try.prog 55 #[.pointer (some ⟨Y, 0, none⟩), .int .i64 id] w fun e w' =>
      (e = .returned (.int .i64 (-1)) ∧ (∀ i, i < L.length → idAt L i ≠ id) ∨ ∃ k : Nat, e = .returned (.int .i64 k) ∧ k < L.length ∧ idAt L k = id ∧ ∀ j, j < k → idAt L j ≠ id) ∧ w' = w := by
  obtain ⟨a, cap, rfl, hc1, hc2, hcells⟩ := hL.cells
  have HC := hide hcells
  clear hcells
  go_enter Try.func55, Try.ntmps55
  go_wp2
  go_loop [5] (fun i => ∃ k : Nat, k ≤ L.length ∧ i = .int .i64 k ∧ Hid (∀ j, j < k → idAt L j ≠ id)) (fun i => L.length - (intOf i).toNat)
  case atStart => exact ⟨0, Nat.zero_le _, rfl, fun j hj => absurd hj (by omega)⟩
  case round =>
    obtain ⟨k, hk, rfl, Hne⟩ := hrel
    by_cases hlt : k < L.length
    · obtain ⟨g, rfl, hg, hcell⟩ := HC.out (by omega)
      obtain ⟨c0, _, _⟩ := hcell k hlt
      clear hcell
      by_cases he : idAt L k = id
      · rw [he] at c0
        go_wp2
        go_ret
        exact ⟨.inr ⟨k, rfl, hlt, he, Hne.out⟩, rfl⟩
      · have hd : decide (idAt L k = id) = false := by simpa using he
        go_wp2
        go_round
        case rel =>
          refine ⟨k + 1, by omega, by go_num, fun j hj => ?_⟩
          by_cases e : j = k
          · subst e; exact he
          · exact Hne.out j (by omega)
        case measure => simp [intOf]; omega
    · go_wp2
      go_ret
      exact ⟨.inl ⟨rfl, fun i hi => Hne.out i (by omega)⟩, rfl⟩

end Go.Proofs.Ytaidjhlijadmiaa
