import Derived.Shelf.SlMaps.Clone
import Derived.Test.YtlmflighkkgikaaP09

namespace Go.Proofs.Ytlmflighkkgikaa
open Go.RowKit
attribute [local go_sem ↓] Go.wp_at_zero Go.wp_at_succ
theorem TreeI.mono {w : World} {F F' : Nat → Prop} {N : List Nat → Option (Nat × Nat)} {M : List Nat → Option Nat} {V : List Nat → Option Nat} (h : TreeI w F N M V) (hF : ∀ k, F k → F' k) : TreeI w F' N M V :=
 ⟨h.root, h.node, h.bare, h.kids, h.pre, h.inj, h.minj, h.told, fun p a hp => hF _ (h.foot p a hp), fun p b hp hm => hF _ (h.mfoot p b hp hm), h.kind, h.low⟩
theorem TreeI.store {w : World} {F : Nat → Prop} {N : List Nat → Option (Nat × Nat)} {M : List Nat → Option Nat} {V : List Nat → Option Nat} (h : TreeI w F N M V) (p : List Nat) (t mb : Nat) (hp : N p ≠ none) (hm : M p = some mb) (hn : N (p ++ [t]) = none) (ht : t ≤ 1000) :
   ∃ w2, (Instr.mapUpdate 65 (.map (some mb)) (.int .i64 t) (.pointer (some ⟨w.heap.size, 0, none⟩))).run Try.prog (w.alloc (.cells #[.map none, .pointer none, .bool false] 67)) = .ok () w2 ∧
     TreeI w2 (fun k => F k ∨ w.heap.size ≤ k) (fun q => if q = p ++ [t] then some (w.heap.size, 0) else N q) (fun q => if q = p ++ [t] then none else M q) V ∧ Only F w w2 ∧ NodeOut N w w2 := by
 have hv := h.kids p mb hp hm
 have hcnt := kidsN_le N p
 have hv1 : MapV Try.prog 3 (w.alloc (.cells #[.map none, .pointer none, .bool false] 67)) mb (kidsN N p) (kidsOf N p) := hv.keep (alloc_old _ _ _ hv.lt)
 have hk0 : kidsOf N p t = none := by
   unfold kidsOf
   rw [if_pos (by omega), Int.toNat_natCast, hn]; rfl
 obtain ⟨w2, hrun, hv2, hg, _⟩ := hv1.store Try.underlying3 Try.underlying65 (by unfold maxLen; omega) t (int_wf t (by omega) (by omega)) hk0 (.pointer (some ⟨w.heap.size, 0, none⟩))
 obtain ⟨q1, q2, q3⟩ := h.addNode p t mb hp hm hn ht hg hv2
 exact ⟨w2, hrun, q1, q2, q3⟩
structure TreeMore (w w' : World) (F : Nat → Prop) (N N' : List Nat → Option (Nat × Nat)) (V' : List Nat → Option Nat) : Prop where
 tree : ∃ M', TreeI w' (fun k => F k ∨ w.heap.size ≤ k) N' M' V'
 only : Only F w w'
 more : ∀ q a, N q = some a → N' q = some a
 out : NodeOut N w w'
set_option maxRecDepth 100000 in
set_option maxHeartbeats 2000000 in
theorem child_any (F : Nat → Prop) (N : List Nat → Option (Nat × Nat)) (M : List Nat → Option Nat) (V : List Nat → Option Nat) (p : List Nat) (t b off : Nat) (w : World) (h : TreeI w F N M V) (hp : N p = some (b, off)) (ht : t ≤ 1000) :
   Calls Try.prog 89 #[.pointer (some ⟨b, off, none⟩), .int .i64 t] w fun e w' =>
     ∃ (a : Nat × Nat) (N' : List Nat → Option (Nat × Nat)), e = .returned (.pointer (some ⟨a.1, a.2, none⟩)) ∧ N' (p ++ [t]) = some a ∧ TreeMore w w' F N N' V := by
 obtain ⟨arr, ty, n0, n1, n2, n3⟩ := h.node p _ hp
 simp only [] at n0 n1 n2 n3
 have c0 : w.cell? ⟨b, off, none⟩ = some (.map (M p)) := by rw [cell_blk n0]; exact n1
 have f0 := frozen_blk n0 off
 have hpn : N p ≠ none := by rw [hp]; simp
 have hwf := int_wf t (by omega) (by omega)
 have hbl := lt_blk n0
 have hnil := fun w r => run_eql_map_nil_sl (P := Try.prog) w 65 _ _ r Try.underlying65
 cases hm : M p with
 | some mb =>
   rw [hm] at c0
   have hlook := h.look p hpn t ht
   rw [hm] at hlook
   cases hn : N (p ++ [t]) with
   | some a =>
     rw [hn] at hlook
     simp only [nodeV, Option.getD_some, Option.isSome_some] at hlook
     have Hn := hide hn
     clear hn
     go_enter Try.func89, Try.ntmps89
     go_wp2
     go_ret
     exact ⟨a, N, rfl, Hn.out, ⟨⟨M, h.mono (fun _ h => .inl h)⟩, Only.refl _ _, fun _ _ h => h, NodeOut.refl _ _⟩⟩
   | none =>
     rw [hn] at hlook
     simp only [nodeV, Option.getD_none, Option.isSome_none] at hlook
     obtain ⟨w2, hrun, ht2, ho2, hno2⟩ := h.store p t mb hpn hm hn ht
     have c1 : ∀ o, (w.alloc o).cell? ⟨b, off, none⟩ = some (.map (some mb)) := fun o => (World.cell?_alloc_past _ _ _ hbl).trans c0
     have Hn := hide hn
     clear hn
     go_enter Try.func89, Try.ntmps89
     go_wp2
     go_ret
     refine ⟨(w.heap.size, 0), _, rfl, ?_, ⟨⟨_, ht2⟩, ho2, fun q a hq => ?_, hno2⟩⟩
     · rw [if_pos rfl]
     · have hne : q ≠ p ++ [t] := fun e => by rw [e, Hn.out] at hq; cases hq
       simp only [if_neg hne]; exact hq
 | none =>
   rw [hm] at c0
   have hn := h.bare p hpn hm t
   obtain ⟨hA, hoA, hnA⟩ := h.addMap p b off hp hm
   have hsw : (w.alloc (.map #[] 0)).setCell ⟨b, off, none⟩ (.map (some w.heap.size)) = (w.setCell ⟨b, off, none⟩ (.map (some w.heap.size))).alloc (.map #[] 0) := by go_simp
   rw [hsw] at hA hoA hnA
   have hmA : (fun q => if q = p then some w.heap.size else M q) p = some w.heap.size := by simp
   have hlook : (Instr.lookup 65 (.map (some w.heap.size)) (.int .i64 t) true).run Try.prog ((w.setCell ⟨b, off, none⟩ (.map (some w.heap.size))).alloc (.map #[] 0)) = .ok (.tuple #[.pointer none, .bool false]) ((w.setCell ⟨b, off, none⟩ (.map (some w.heap.size))).alloc (.map #[] 0)) := by
     have q := hA.look p hpn t ht
     rw [hn] at q
     simpa [nodeV] using q
   have hsz2 : ((w.setCell ⟨b, off, none⟩ (.map (some w.heap.size))).alloc (.map #[] 0)).heap.size = w.heap.size + 1 := by simp [World.setCell]
   obtain ⟨w2, hrun, ht2, ho2, hno2⟩ := hA.store p t w.heap.size hpn hmA hn ht
   rw [hsz2] at hrun ht2
   obtain ⟨arr', ty', m0, m1, _, _⟩ := hA.node p _ hp
   simp only [if_true] at m0 m1
   have f1 : ∀ o, (w.alloc o).frozen? ⟨b, off, none⟩ = false := fun o => (World.frozen?_alloc_past _ _ _ hbl).trans f0
   have c1 : ∀ o, (w.alloc o).cell? ⟨b, off, none⟩ = some (.map none) := fun o => (World.cell?_alloc_past _ _ _ hbl).trans c0
   have c2 : ((w.setCell ⟨b, off, none⟩ (.map (some w.heap.size))).alloc (.map #[] 0)).cell? ⟨b, off, none⟩ = some (.map (some w.heap.size)) := by rw [cell_blk m0]; exact m1
   have c3 : ∀ o, (((w.setCell ⟨b, off, none⟩ (.map (some w.heap.size))).alloc (.map #[] 0)).alloc o).cell? ⟨b, off, none⟩ = some (.map (some w.heap.size)) := fun o => (World.cell?_alloc_past _ _ _ (by rw [hsz2]; show b < _; omega)).trans c2
   have Hn := hide hn
   clear hn
   have hmm := fun w => run_makeMap (P := Try.prog) 65 w
   clear hsw
   go_enter Try.func89, Try.ntmps89
   go_wp2
   go_ret
   refine ⟨w.heap.size + 1, 0, rfl, _, ?_, ⟨⟨_, ht2.mono ?_⟩, ?_, fun q a hq => ?_, hnA.trans hno2 (fun _ _ h => h)⟩⟩
   · rw [if_pos rfl]
   · intro k hk
     rcases hk with (hk | hk) | hk
     · exact .inl hk
     · exact .inr hk
     · right; omega
   · exact hoA.trans ho2 (fun k hk h => by rcases h with h | h; exact h; omega)
   · have hne : q ≠ p ++ [t] := fun e => by rw [e, Hn.out] at hq; cases hq
     simp only [if_neg hne]; exact hq
theorem TreeI.setV {w : World} {F : Nat → Prop} {N : List Nat → Option (Nat × Nat)} {M : List Nat → Option Nat} {V : List Nat → Option Nat} (h : TreeI w F N M V) (p : List Nat) (a1 a2 : Nat) (B : Option Nat) (hp : N p = some (a1, a2)) :
   TreeI ((w.setCell ⟨a1, a2 + 1, none⟩ (blkV B)).setCell ⟨a1, a2 + 2, none⟩ (.bool B.isSome)) F N M (fun q => if q = p then B else V q) ∧ Only F w ((w.setCell ⟨a1, a2 + 1, none⟩ (blkV B)).setCell ⟨a1, a2 + 2, none⟩ (.bool B.isSome)) ∧ NodeOut N w ((w.setCell ⟨a1, a2 + 1, none⟩ (blkV B)).setCell ⟨a1, a2 + 2, none⟩ (.bool B.isSome)) := by
 obtain ⟨arr, ty, n0, n1, n2, n3⟩ := h.node p _ hp
 simp only [] at n0 n1 n2 n3
 have far : ∀ k o, w.heap[k]? = some o → k ≠ a1 → ((w.setCell ⟨a1, a2 + 1, none⟩ (blkV B)).setCell ⟨a1, a2 + 2, none⟩ (.bool B.isSome)).heap[k]? = some o := fun k o hk hne => by
   rw [setCell_far _ _ _ _ _ hne, setCell_far _ _ _ _ _ hne]; exact hk
 have mapne : ∀ mb cnt g, MapV Try.prog 3 w mb cnt g → mb ≠ a1 := fun mb cnt g hv e => by
   obtain ⟨es, cl, ho⟩ := hv.obj
   rw [e, n0] at ho; cases ho
 refine ⟨⟨h.root, fun q a hq => ?_, h.bare, fun q b hq hm => ?_, h.pre, h.inj, h.minj, fun q hq => ?_, h.foot, h.mfoot, fun q a arr2 ty2 fr2 hq ha => ?_, h.low⟩, ((Only.refl F w).setCell (fun _ => h.foot p _ hp) _).setCell (fun _ => h.foot p _ hp) _, fun q a arr2 ty2 hq ha => ?_⟩
 · by_cases e : q = p
   · subst e
     rw [hp] at hq
     injection hq with hq
     subst hq
     have l1 := (Array.getElem?_eq_some_iff.1 n2).1
     have l2 := (Array.getElem?_eq_some_iff.1 n3).1
     refine ⟨(arr.setIfInBounds (a2 + 1) (blkV B)).setIfInBounds (a2 + 2) (.bool B.isSome), ty, setCell_blk (setCell_blk n0 _ _) _ _, ?_, ?_, ?_⟩
     · rw [Array.getElem?_setIfInBounds_ne (by simp), Array.getElem?_setIfInBounds_ne (by simp)]; exact n1
     · rw [Array.getElem?_setIfInBounds_ne (by simp)]; simp [l1]
     · simp [l2]
   · obtain ⟨arr', ty', m0, m1, m2, m3⟩ := h.node q a hq
     have hne : a.1 ≠ a1 := fun e' => e (h.inj q p a (a1, a2) hq hp e')
     exact ⟨arr', ty', far _ _ m0 hne, m1, by simp only [if_neg e]; exact m2, by simp only [if_neg e]; exact m3⟩
 · have hv := h.kids q b hq hm
   refine hv.keep ?_
   obtain ⟨es, cl, ho⟩ := hv.obj
   rw [ho]; exact far _ _ ho (mapne _ _ _ hv)
 · by_cases e : q = p
   · subst e; rw [hp]; simp
   · simp only [if_neg e] at hq; exact h.told q hq
 · by_cases e : q = p
   · subst e
     rw [hp] at hq
     injection hq with hq
     subst hq
     rw [setCell_blk (setCell_blk n0 _ _)] at ha
     injection ha with ha
     injection ha with _ ha _
     rw [← ha]; exact h.kind q _ arr ty _ hp n0
   · obtain ⟨arr', ty', m0, _⟩ := h.node q a hq
     rw [far _ _ m0 (fun e' => e (h.inj q p a (a1, a2) hq hp e'))] at ha
     injection ha with ha
     injection ha with _ ha _
     rw [← ha]; exact h.kind q a arr' ty' _ hq m0
 · by_cases e : q = p
   · subst e
     rw [hp] at hq
     injection hq with hq
     subst hq
     simp only [] at ha
     rw [n0] at ha
     injection ha with ha
     injection ha with ha1 ha2 _
     subst ha1 ha2
     refine ⟨_, setCell_blk (setCell_blk n0 _ _) _ _, by simp, fun j hj => ?_⟩
     simp at hj
     rw [Array.getElem?_setIfInBounds_ne (by omega), Array.getElem?_setIfInBounds_ne (by omega)]
   · exact ⟨arr2, far _ _ ha (fun e' => e (h.inj q p a (a1, a2) hq hp e')), rfl, fun _ _ => rfl⟩
set_option maxRecDepth 100000 in
set_option maxHeartbeats 2000000 in
theorem treeput_any (F : Nat → Prop) (N : List Nat → Option (Nat × Nat)) (M : List Nat → Option Nat) (V : List Nat → Option Nat) (b off B : Nat) (T : List Nat) (vp : Value) (w : World) (h : TreeI w F N M V) (hr : N [] = some (b, off)) (hT : TokT w vp T) (hb : ∀ t ∈ T, t ≤ 1000)
   (hFi : ∀ k cur fr, F k → w.heap[k]? ≠ some (.cells cur 3 fr)) (hTl : T.length ≤ 1000) :
   Calls Try.prog 82 #[.pointer (some ⟨b, off, none⟩), vp, .pointer (some ⟨B, 0, none⟩)] w fun e w' =>
     e = .returned (.tuple #[]) ∧ ∃ N', TreeMore w w' F N N' (fun q => if q = T then some B else V q) := by
 obtain ⟨ap, cp, rfl, hp1, hp2⟩ := hT.slice
 unfold maxLen at hp2
 have HT := hide hT
 clear hT
 go_enter Try.func82, Try.ntmps82
 go_wp2
 go_loopw [0, 10] (fun t i wr => ∃ (k : Nat) (a1 a2 : Nat) (N' : List Nat → Option (Nat × Nat)) (M' : List Nat → Option Nat), k ≤ T.length ∧ i = .int .i64 k ∧ N' (T.take k) = some (a1, a2) ∧ t = .pointer (some ⟨a1, a2, none⟩) ∧ TreeI wr (fun j => F j ∨ w.heap.size ≤ j) N' M' V ∧ Only F w wr ∧ Hid (∀ q a, N q = some a → N' q = some a) ∧ Hid (NodeOut N w wr)) (fun _ i _ => T.length - (intOf i).toNat)
 case atStart => exact ⟨0, b, off, N, M, Nat.zero_le _, rfl, hr, rfl, h.mono (fun _ h => .inl h), Only.refl _ _, fun _ _ h => h, NodeOut.refl _ _⟩
 case round =>
   obtain ⟨k, a1, a2, N', M', hk, rfl, hN, rfl, ht, ho, Hmore, Hout⟩ := hrel
   by_cases hlt : k < T.length
   · have hTr : TokT wr (.slice ap T.length cp) T := HT.out.keep (ho.keep hFi)
     obtain ⟨bp, op, rfl, hbp, hc⟩ : ∃ b off, ap = some ⟨b, off, none⟩ ∧ b < wr.heap.size ∧ ∀ j, j < T.length → wr.cell? ⟨b, off + j, none⟩ = some (.int .i64 (tkI T j)) := by
       obtain ⟨a', c', e, _, _, h3⟩ := hTr.ints
       injection e with e1 _ _
       subst e1
       exact h3 (by omega)
     have ck := hc k hlt
     unfold tkI at ck
     have htk : tkN T k ≤ 1000 := by
       refine hb _ ?_
       unfold tkN
       rw [List.getD_eq_getElem?_getD]
       simp [hlt]
     have e1 : T.take k ++ [tkN T k] = T.take (k + 1) := by rw [take_snoc' _ 0 _ hlt]; rfl
     have hch := child_any _ N' M' V (T.take k) (tkN T k) a1 a2 wr ht hN htk
     rw [e1] at hch
     have Hch := hide hch
     clear hch hc e1 hTr
     generalize tkN T k = tk at ck Hch
     go_wp2_with fail
     refine Hch.out.mono ?_
     rintro e w1 ⟨a, N'', rfl, hN'', ⟨M'', ht''⟩, ho'', hm'', hno''⟩
     obtain ⟨x1, x2⟩ := a
     have hsz := ho.size
     have HN'' := hide hN''
     have ht3 : TreeI w1 (fun j => F j ∨ w.heap.size ≤ j) N'' M'' V := ht''.mono (fun j hj => by
       rcases hj with (hj | hj) | hj
       · exact .inl hj
       · exact .inr hj
       · right; omega)
     have ho3 : Only F w w1 := ho.trans ho'' (fun j hj h => by rcases h with h | h; exact h; omega)
     have hm3 : Hid (∀ q a, N q = some a → N'' q = some a) := fun q a hq => hm'' q a (Hmore.out q a hq)
     have Hout3 : Hid (NodeOut N w w1) := Hout.out.trans hno'' Hmore.out
     clear hN'' ht'' ho'' hm'' Hch hno''
     go_wp2
     go_roundw
     case rel => exact ⟨k + 1, x1, x2, N'', M'', by omega, by go_num, HN''.out, rfl, ht3, ho3, hm3, Hout3⟩
     case measure => simp [intOf]; omega
   · have hke : k = T.length := by omega
     have hall : T.take k = T := List.take_of_length_le (by omega)
     rw [hall] at hN
     obtain ⟨arr, ty, n0, n1, n2, n3⟩ := ht.node T _ hN
     simp only [] at n0 n1 n2 n3
     have c1 : wr.cell? ⟨a1, a2 + 1, none⟩ = some (blkV (V T)) := by rw [cell_blk n0]; exact n2
     have c2 : wr.cell? ⟨a1, a2 + 2, none⟩ = some (.bool (V T).isSome) := by rw [cell_blk n0]; exact n3
     have f1 := frozen_blk n0 (a2 + 1)
     have f2 := frozen_blk n0 (a2 + 2)
     obtain ⟨q1, q2, q3⟩ := ht.setV T a1 a2 (some B) hN
     have H3 := hide q3
     subst hke
     have hsz := ho.size
     have H1 := hide q1
     have H2 := hide q2
     clear q1 q2 q3 hall hN
     go_wp2
     refine bodyPost_end (v := .tuple #[]) (by simp [results, Try.results82]) rfl ⟨rfl, N', ⟨M', H1.out⟩, ho.trans H2.out (fun j hj h => by rcases h with h | h; exact h; omega), Hmore.out, Hout.out.trans H3.out Hmore.out⟩
theorem TreeI.look1 {w : World} {F : Nat → Prop} {N : List Nat → Option (Nat × Nat)} {M : List Nat → Option Nat} {V : List Nat → Option Nat} (h : TreeI w F N M V) (p : List Nat) (hp : N p ≠ none) (t : Nat) (ht : t ≤ 1000) :
   (Instr.lookup 65 (.map (M p)) (.int .i64 t) false).run Try.prog w = .ok ((nodeV (N (p ++ [t]))).getD (.pointer none)) w := by
 have hwf : (Lit.int .i64 (t : Int)).wf = true := int_wf t (by omega) (by omega)
 cases hm : M p with
 | none =>
   rw [Maps.look_nil false (Maps.int_keyed Try.underlying3) Try.underlying65 (Try.zero_node w) (Maps.keyOf_int_mk Try.underlying3 hwf), h.bare p hp hm t]
   rfl
 | some b =>
   have hv := h.kids p b hp hm
   rw [hv.look1 Try.underlying3 Try.underlying65 (Try.zero_node w) t hwf]
   unfold kidsOf
   rw [if_pos (by omega), Int.toNat_natCast]
def farTo (V : List Nat → Option Nat) (T : List Nat) : Nat → List Nat
 | 0 => []
 | n + 1 => if (V (T.take (n + 1))).isSome = true then T.take (n + 1) else farTo V T n
theorem farTo_some (V : List Nat → Option Nat) (T : List Nat) (n : Nat) (h : (V (T.take (n + 1))).isSome = true) : farTo V T (n + 1) = T.take (n + 1) := by simp only [farTo, if_pos h]
theorem farTo_none (V : List Nat → Option Nat) (T : List Nat) (n : Nat) (h : V (T.take (n + 1)) = none) : farTo V T (n + 1) = farTo V T n := by simp [farTo, h]
theorem farTo_stop (V : List Nat → Option Nat) (T : List Nat) (n : Nat) (h : ∀ m, n < m → m ≤ T.length → V (T.take m) = none) (m : Nat) (hn : n ≤ m) (hm : m ≤ T.length) : farTo V T m = farTo V T n := by
 induction m with
 | zero => rw [show n = 0 by omega]
 | succ m ih =>
   by_cases e : n = m + 1
   · rw [e]
   · rw [farTo_none V T m (h (m + 1) (by omega) hm)]; exact ih (by omega) (by omega)
def farOf (V : List Nat → Option Nat) (T : List Nat) : List Nat := farTo V T T.length
set_option maxRecDepth 100000 in
set_option maxHeartbeats 2000000 in
theorem treefar_any (F : Nat → Prop) (N : List Nat → Option (Nat × Nat)) (M : List Nat → Option Nat) (V : List Nat → Option Nat) (b off : Nat) (T : List Nat) (vp : Value) (w : World) (h : TreeI w F N M V) (hr : N [] = some (b, off)) (hT : TokT w vp T) (hb : ∀ t ∈ T, t ≤ 1000) :
   Calls Try.prog 49 #[.pointer (some ⟨b, off, none⟩), vp] w fun e w' => e = .returned (.tuple #[blkV (V (farOf V T)), .bool (V (farOf V T)).isSome]) ∧ ∃ q, w' = w.drewN q := by
 obtain ⟨ap, cp, rfl, hp1, hp2⟩ := hT.slice
 unfold maxLen at hp2
 have hcell : 0 < T.length → ∃ b off, ap = some ⟨b, off, none⟩ ∧ b < w.heap.size ∧ ∀ j, j < T.length → w.cell? ⟨b, off + j, none⟩ = some (.int .i64 (tkI T j)) := fun h0 => by
   obtain ⟨a', c', e, _, _, h3⟩ := hT.ints
   injection e with e1 _ _
   subst e1
   exact h3 h0
 have Hcell := hide hcell
 clear hcell
 obtain ⟨arr0, ty0, r0, r1, r2, r3⟩ := h.node [] _ hr
 simp only [] at r0 r1 r2 r3
 have x1 : w.cell? ⟨b, off + 1, none⟩ = some (blkV (V [])) := by rw [cell_blk r0]; exact r2
 have x2 : w.cell? ⟨b, off + 2, none⟩ = some (.bool (V []).isSome) := by rw [cell_blk r0]; exact r3
 clear r1 r2 r3
 go_enter Try.func49, Try.ntmps49
 go_wp2
 go_quiet (fail)
 clear x1 x2
 have hd : ∀ q, TreeI (w.drewN q) F N M V ∧ TokT (w.drewN q) (.slice ap T.length cp) T := fun q => ⟨h.keep (fun _ _ => rfl), hT⟩
 have hcl : ∀ q, (w.drewN q).heap = w.heap := fun q => rfl
 rename_i nq
 obtain ⟨h, hT⟩ := hd nq
 clear hd hcl r0 arr0 ty0
 have Hq : Hid (∃ q, w.drewN nq = w.drewN q) := ⟨nq, rfl⟩
 replace Hcell : Hid (0 < T.length → ∃ b off, ap = some ⟨b, off, none⟩ ∧ b < (w.drewN nq).heap.size ∧ ∀ j, j < T.length → (w.drewN nq).cell? ⟨b, off + j, none⟩ = some (.int .i64 (tkI T j))) := Hcell.out
 generalize w.drewN nq = W at h hT Hq Hcell ⊢
 go_wp2
 go_loop [0, 6, 7, 20] (fun t v o i => ∃ (k : Nat) (a : Nat × Nat), k ≤ T.length ∧ i = .int .i64 k ∧ N (T.take k) = some a ∧ t = .pointer (some ⟨a.1, a.2, none⟩) ∧ v = blkV (V (farTo V T k)) ∧ o = .bool (V (farTo V T k)).isSome) (fun _ _ _ i => T.length - (intOf i).toNat)
 case atStart => exact ⟨0, _, Nat.zero_le _, rfl, hr, rfl, rfl, rfl⟩
 case round =>
   obtain ⟨k, a, hk, rfl, hN, rfl, rfl, rfl⟩ := hrel
   obtain ⟨arr, ty, n0, n1, n2, n3⟩ := h.node _ a hN
   have HN := hide hN
   clear hN
   obtain ⟨a1, a2⟩ := a
   simp only [] at n0 n1 n2 n3
   by_cases hlt : k < T.length
   · obtain ⟨bp, op, rfl, hbp, hc⟩ := Hcell.out (by omega)
     have ck := hc k hlt
     unfold tkI at ck
     have c0 : W.cell? ⟨a1, a2, none⟩ = some (.map (M (T.take k))) := by rw [cell_blk n0]; exact n1
     have htk : tkN T k ≤ 1000 := by
       refine hb _ ?_
       unfold tkN
       rw [List.getD_eq_getElem?_getD]
       simp [hlt]
     have hlook := h.look1 (T.take k) (by rw [HN.out]; simp) (tkN T k) htk
     have e1 : T.take k ++ [tkN T k] = T.take (k + 1) := by rw [take_snoc' _ 0 _ hlt]; rfl
     rw [e1] at hlook
     have He1 := hide e1
     clear hc e1 n1 n2 n3
     generalize tkN T k = tk at ck hlook
     cases hn : N (T.take (k + 1)) with
     | none =>
       rw [hn] at hlook
       simp only [nodeV, Option.getD_none] at hlook
       have hfar : farOf V T = farTo V T k := by
         refine farTo_stop V T k (fun m h1 h2 => ?_) T.length (by omega) (Nat.le_refl _)
         have h3 : N (T.take m) = none := by
           have := h.none_on (T.take (k + 1)) ((T.take m).drop (k + 1)) hn
           have e : T.take (k + 1) = (T.take m).take (k + 1) := by rw [List.take_take]; congr 1; omega
           rw [e, List.take_append_drop] at this
           exact this
         cases hv : V (T.take m) with
         | none => rfl
         | some B => exact absurd h3 (h.told _ (by rw [hv]; simp))
       have Hfar := hide hfar
       clear hn hfar
       go_wp2
       go_ret2
       rw [Hfar.out]
       exact ⟨rfl, Hq.out⟩
     | some a' =>
       rw [hn] at hlook
       simp only [nodeV, Option.getD_some] at hlook
       obtain ⟨arr', ty', m0, m1, m2, m3⟩ := h.node _ a' hn
       have Hn := hide hn
       clear hn
       obtain ⟨x, y⟩ := a'
       simp only [] at m0 m1 m2 m3 hlook
       have d1 : W.cell? ⟨x, y + 1, none⟩ = some (blkV (V (T.take (k + 1)))) := by rw [cell_blk m0]; exact m2
       have d2 : W.cell? ⟨x, y + 2, none⟩ = some (.bool (V (T.take (k + 1))).isSome) := by rw [cell_blk m0]; exact m3
       have Hs := hide (farTo_some V T k)
       have Hno := hide (farTo_none V T k)
       cases hv : V (T.take (k + 1)) with
       | none =>
         rw [hv] at d2
         rw [hv] at Hno
         simp only [Option.isSome_none] at d2
         go_wp2
         go_round
         case rel => exact ⟨k + 1, (x, y), by omega, by go_num, Hn.out, rfl, by rw [Hno.out rfl], by rw [Hno.out rfl]⟩
         case measure => simp [intOf]; omega
       | some B =>
         rw [hv] at d1 d2
         simp only [Option.isSome_some] at d2
         go_wp2
         go_round
         case rel => exact ⟨k + 1, (x, y), by omega, by go_num, Hn.out, rfl, by rw [Hs.out (by rw [hv]; rfl), hv], by rw [Hs.out (by rw [hv]; rfl), hv]; rfl⟩
         case measure => simp [intOf]; omega
   · have hke : k = T.length := by omega
     subst hke
     go_wp2
     go_ret2
     exact ⟨rfl, Hq.out⟩
end Go.Proofs.Ytlmflighkkgikaa
