import Derived.Shelf.SlMaps.Clone
import Derived.Test.YtlmflighkkgikaaGreatP06
import Derived.Test.YtlmflighkkgikaaGreatP07

namespace Go.Proofs.YtlmflighkkgikaaGreat
open Go.RowKit
attribute [local go_sem ↓] Go.wp_at_zero Go.wp_at_succ
theorem TreeI.mono {w : World} {F F' : Nat → Prop} {N : List Nat → Option (Nat × Nat)} {M : List Nat → Option Nat} {V : List Nat → Option Nat} (h : TreeI w F N M V) (hF : ∀ k, F k → F' k) : TreeI w F' N M V :=
 ⟨h.root, h.node, h.bare, h.kids, h.pre, h.inj, h.minj, h.told, fun p a hp => hF _ (h.foot p a hp), fun p b hp hm => hF _ (h.mfoot p b hp hm), h.kind, h.low⟩
theorem TreeI.store {w : World} {F : Nat → Prop} {N : List Nat → Option (Nat × Nat)} {M : List Nat → Option Nat} {V : List Nat → Option Nat} (h : TreeI w F N M V) (p : List Nat) (t mb : Nat) (hp : N p ≠ none) (hm : M p = some mb) (hn : N (p ++ [t]) = none) (ht : t ≤ 1000) :
   ∃ w2, (Instr.mapUpdate 65 (.map (some mb)) (.int .i64 t) (.pointer (some ⟨w.heap.size, 0, none⟩))).run Tryz.prog (w.alloc (.cells #[.map none, .pointer none, .bool false] 68)) = .ok () w2 ∧
     TreeI w2 (fun k => F k ∨ w.heap.size ≤ k) (fun q => if q = p ++ [t] then some (w.heap.size, 0) else N q) (fun q => if q = p ++ [t] then none else M q) V ∧ Only F w w2 ∧ NodeOut N w w2 := by
 have hv := h.kids p mb hp hm
 have hcnt := kidsN_le N p
 have hv1 : MapV Tryz.prog 3 (w.alloc (.cells #[.map none, .pointer none, .bool false] 68)) mb (kidsN N p) (kidsOf N p) := hv.keep (alloc_old _ _ _ hv.lt)
 have hk0 : kidsOf N p t = none := by
   unfold kidsOf
   rw [if_pos (by omega), Int.toNat_natCast, hn]; rfl
 obtain ⟨w2, hrun, hv2, hg, _⟩ := hv1.store Tryz.underlying3 Tryz.underlying65 (by unfold maxLen; omega) t (int_wf t (by omega) (by omega)) hk0 (.pointer (some ⟨w.heap.size, 0, none⟩))
 obtain ⟨q1, q2, q3⟩ := h.addNode p t mb hp hm hn ht hg hv2
 exact ⟨w2, hrun, q1, q2, q3⟩
structure TreeMore (w w' : World) (F : Nat → Prop) (N N' : List Nat → Option (Nat × Nat)) (V' : List Nat → Option Nat) : Prop where
 tree : ∃ M', TreeI w' (fun k => F k ∨ w.heap.size ≤ k) N' M' V'
 only : Only F w w'
 more : ∀ q a, N q = some a → N' q = some a
 out : NodeOut N w w'
set_option maxRecDepth 100000 in
set_option maxHeartbeats 2000000 in
theorem child_any (F : Nat → Prop) (N : List Nat → Option (Nat × Nat)) (M : List Nat → Option Nat) (V : List Nat → Option Nat) (p : List Nat) (t b off : Nat) (w : World) (h : TreeI w F N M V) (hp : N p = some (b, off)) (ht : t ≤ 1000) :
   Calls Tryz.prog 115 #[.pointer (some ⟨b, off, none⟩), .int .i64 t] w fun e w' =>
     ∃ (a : Nat × Nat) (N' : List Nat → Option (Nat × Nat)), e = .returned (.pointer (some ⟨a.1, a.2, none⟩)) ∧ N' (p ++ [t]) = some a ∧ TreeMore w w' F N N' V := by
 obtain ⟨arr, ty, n0, n1, n2, n3⟩ := h.node p _ hp
 simp only [] at n0 n1 n2 n3
 have c0 : w.cell? ⟨b, off, none⟩ = some (.map (M p)) := by rw [cell_blk n0]; exact n1
 have f0 := frozen_blk n0 off
 have hpn : N p ≠ none := by rw [hp]; simp
 have hwf := int_wf t (by omega) (by omega)
 have hbl := lt_blk n0
 have hnil := fun w r => run_eql_map_nil_sl (P := Tryz.prog) w 65 _ _ r Tryz.underlying65
 cases hm : M p with
 | some mb =>
   rw [hm] at c0
   have hlook := h.look p hpn t ht
   rw [hm] at hlook
   cases hn : N (p ++ [t]) with
   | some a =>
     rw [hn] at hlook
     simp only [nodeV, Option.getD_some, Option.isSome_some] at hlook
     have Hn := hide hn
     clear hn
     go_enter Tryz.func115, Tryz.ntmps115
     go_wp2
     go_ret
     exact ⟨a, N, rfl, Hn.out, ⟨⟨M, h.mono (fun _ h => .inl h)⟩, Only.refl _ _, fun _ _ h => h, NodeOut.refl _ _⟩⟩
   | none =>
     rw [hn] at hlook
     simp only [nodeV, Option.getD_none, Option.isSome_none] at hlook
     obtain ⟨w2, hrun, ht2, ho2, hno2⟩ := h.store p t mb hpn hm hn ht
     have c1 : ∀ o, (w.alloc o).cell? ⟨b, off, none⟩ = some (.map (some mb)) := fun o => (World.cell?_alloc_past _ _ _ hbl).trans c0
     have Hn := hide hn
     clear hn
     go_enter Tryz.func115, Tryz.ntmps115
     go_wp2
     go_ret
     refine ⟨(w.heap.size, 0), _, rfl, ?_, ⟨⟨_, ht2⟩, ho2, fun q a hq => ?_, hno2⟩⟩
     · rw [if_pos rfl]
     · have hne : q ≠ p ++ [t] := fun e => by rw [e, Hn.out] at hq; cases hq
       simp only [if_neg hne]; exact hq
 | none =>
   rw [hm] at c0
   have hn := h.bare p hpn hm t
   obtain ⟨hA, hoA, hnA⟩ := h.addMap p b off hp hm
   have hsw : (w.alloc (.map #[] 0)).setCell ⟨b, off, none⟩ (.map (some w.heap.size)) = (w.setCell ⟨b, off, none⟩ (.map (some w.heap.size))).alloc (.map #[] 0) := by go_simp
   rw [hsw] at hA hoA hnA
   have hmA : (fun q => if q = p then some w.heap.size else M q) p = some w.heap.size := by simp
   have hlook : (Instr.lookup 65 (.map (some w.heap.size)) (.int .i64 t) true).run Tryz.prog ((w.setCell ⟨b, off, none⟩ (.map (some w.heap.size))).alloc (.map #[] 0)) = .ok (.tuple #[.pointer none, .bool false]) ((w.setCell ⟨b, off, none⟩ (.map (some w.heap.size))).alloc (.map #[] 0)) := by
     have q := hA.look p hpn t ht
     rw [hn] at q
     simpa [nodeV] using q
   have hsz2 : ((w.setCell ⟨b, off, none⟩ (.map (some w.heap.size))).alloc (.map #[] 0)).heap.size = w.heap.size + 1 := by simp [World.setCell]
   obtain ⟨w2, hrun, ht2, ho2, hno2⟩ := hA.store p t w.heap.size hpn hmA hn ht
   rw [hsz2] at hrun ht2
   obtain ⟨arr', ty', m0, m1, _, _⟩ := hA.node p _ hp
   simp only [if_true] at m0 m1
   have f1 : ∀ o, (w.alloc o).frozen? ⟨b, off, none⟩ = false := fun o => (World.frozen?_alloc_past _ _ _ hbl).trans f0
   have c1 : ∀ o, (w.alloc o).cell? ⟨b, off, none⟩ = some (.map none) := fun o => (World.cell?_alloc_past _ _ _ hbl).trans c0
   have c2 : ((w.setCell ⟨b, off, none⟩ (.map (some w.heap.size))).alloc (.map #[] 0)).cell? ⟨b, off, none⟩ = some (.map (some w.heap.size)) := by rw [cell_blk m0]; exact m1
   have c3 : ∀ o, (((w.setCell ⟨b, off, none⟩ (.map (some w.heap.size))).alloc (.map #[] 0)).alloc o).cell? ⟨b, off, none⟩ = some (.map (some w.heap.size)) := fun o => (World.cell?_alloc_past _ _ _ (by rw [hsz2]; show b < _; omega)).trans c2
   have Hn := hide hn
   clear hn
   have hmm := fun w => run_makeMap (P := Tryz.prog) 65 w
   clear hsw
   go_enter Tryz.func115, Tryz.ntmps115
   go_wp2
   go_ret
   refine ⟨w.heap.size + 1, 0, rfl, _, ?_, ⟨⟨_, ht2.mono ?_⟩, ?_, fun q a hq => ?_, hnA.trans hno2 (fun _ _ h => h)⟩⟩
   · rw [if_pos rfl]
   · intro k hk
     rcases hk with (hk | hk) | hk
     · exact .inl hk
     · exact .inr hk
     · right; omega
   · exact hoA.trans ho2 (fun k hk h => by rcases h with h | h; exact h; omega)
   · have hne : q ≠ p ++ [t] := fun e => by rw [e, Hn.out] at hq; cases hq
     simp only [if_neg hne]; exact hq
theorem TreeI.setV {w : World} {F : Nat → Prop} {N : List Nat → Option (Nat × Nat)} {M : List Nat → Option Nat} {V : List Nat → Option Nat} (h : TreeI w F N M V) (p : List Nat) (a1 a2 : Nat) (B : Option Nat) (hp : N p = some (a1, a2)) :
   TreeI ((w.setCell ⟨a1, a2 + 1, none⟩ (blkV B)).setCell ⟨a1, a2 + 2, none⟩ (.bool B.isSome)) F N M (fun q => if q = p then B else V q) ∧ Only F w ((w.setCell ⟨a1, a2 + 1, none⟩ (blkV B)).setCell ⟨a1, a2 + 2, none⟩ (.bool B.isSome)) ∧ NodeOut N w ((w.setCell ⟨a1, a2 + 1, none⟩ (blkV B)).setCell ⟨a1, a2 + 2, none⟩ (.bool B.isSome)) := by
 obtain ⟨arr, ty, n0, n1, n2, n3⟩ := h.node p _ hp
 simp only [] at n0 n1 n2 n3
 have far : ∀ k o, w.heap[k]? = some o → k ≠ a1 → ((w.setCell ⟨a1, a2 + 1, none⟩ (blkV B)).setCell ⟨a1, a2 + 2, none⟩ (.bool B.isSome)).heap[k]? = some o := fun k o hk hne => by
   rw [setCell_far _ _ _ _ _ hne, setCell_far _ _ _ _ _ hne]; exact hk
 have mapne : ∀ mb cnt g, MapV Tryz.prog 3 w mb cnt g → mb ≠ a1 := fun mb cnt g hv e => by
   obtain ⟨es, cl, ho⟩ := hv.obj
   rw [e, n0] at ho; cases ho
 refine ⟨⟨h.root, fun q a hq => ?_, h.bare, fun q b hq hm => ?_, h.pre, h.inj, h.minj, fun q hq => ?_, h.foot, h.mfoot, fun q a arr2 ty2 fr2 hq ha => ?_, h.low⟩, ((Only.refl F w).setCell (fun _ => h.foot p _ hp) _).setCell (fun _ => h.foot p _ hp) _, fun q a arr2 ty2 hq ha => ?_⟩
 · by_cases e : q = p
   · subst e
     rw [hp] at hq
     injection hq with hq
     subst hq
     have l1 := (Array.getElem?_eq_some_iff.1 n2).1
     have l2 := (Array.getElem?_eq_some_iff.1 n3).1
     refine ⟨(arr.setIfInBounds (a2 + 1) (blkV B)).setIfInBounds (a2 + 2) (.bool B.isSome), ty, setCell_blk (setCell_blk n0 _ _) _ _, ?_, ?_, ?_⟩
     · rw [Array.getElem?_setIfInBounds_ne (by simp), Array.getElem?_setIfInBounds_ne (by simp)]; exact n1
     · rw [Array.getElem?_setIfInBounds_ne (by simp)]; simp [l1]
     · simp [l2]
   · obtain ⟨arr', ty', m0, m1, m2, m3⟩ := h.node q a hq
     have hne : a.1 ≠ a1 := fun e' => e (h.inj q p a (a1, a2) hq hp e')
     exact ⟨arr', ty', far _ _ m0 hne, m1, by simp only [if_neg e]; exact m2, by simp only [if_neg e]; exact m3⟩
 · have hv := h.kids q b hq hm
   refine hv.keep ?_
   obtain ⟨es, cl, ho⟩ := hv.obj
   rw [ho]; exact far _ _ ho (mapne _ _ _ hv)
 · by_cases e : q = p
   · subst e; rw [hp]; simp
   · simp only [if_neg e] at hq; exact h.told q hq
 · by_cases e : q = p
   · subst e
     rw [hp] at hq
     injection hq with hq
     subst hq
     rw [setCell_blk (setCell_blk n0 _ _)] at ha
     injection ha with ha
     injection ha with _ ha _
     rw [← ha]; exact h.kind q _ arr ty _ hp n0
   · obtain ⟨arr', ty', m0, _⟩ := h.node q a hq
     rw [far _ _ m0 (fun e' => e (h.inj q p a (a1, a2) hq hp e'))] at ha
     injection ha with ha
     injection ha with _ ha _
     rw [← ha]; exact h.kind q a arr' ty' _ hq m0
 · by_cases e : q = p
   · subst e
     rw [hp] at hq
     injection hq with hq
     subst hq
     simp only [] at ha
     rw [n0] at ha
     injection ha with ha
     injection ha with ha1 ha2 _
     subst ha1 ha2
     refine ⟨_, setCell_blk (setCell_blk n0 _ _) _ _, by simp, fun j hj => ?_⟩
     simp at hj
     rw [Array.getElem?_setIfInBounds_ne (by omega), Array.getElem?_setIfInBounds_ne (by omega)]
   · exact ⟨arr2, far _ _ ha (fun e' => e (h.inj q p a (a1, a2) hq hp e')), rfl, fun _ _ => rfl⟩
set_option maxRecDepth 100000 in
set_option maxHeartbeats 2000000 in
theorem treeput_any (F : Nat → Prop) (N : List Nat → Option (Nat × Nat)) (M : List Nat → Option Nat) (V : List Nat → Option Nat) (b off B : Nat) (T : List Nat) (vp : Value) (w : World) (h : TreeI w F N M V) (hr : N [] = some (b, off)) (hT : TokT w vp T) (hb : ∀ t ∈ T, t ≤ 1000)
   (hFi : ∀ k cur fr, F k → w.heap[k]? ≠ some (.cells cur 3 fr)) (hTl : T.length ≤ 1000) :
   Calls Tryz.prog 104 #[.pointer (some ⟨b, off, none⟩), vp, .pointer (some ⟨B, 0, none⟩)] w fun e w' =>
     e = .returned (.tuple #[]) ∧ ∃ N', TreeMore w w' F N N' (fun q => if q = T then some B else V q) := by
 obtain ⟨ap, cp, rfl, hp1, hp2⟩ := hT.slice
 unfold maxLen at hp2
 have HT := hide hT
 clear hT
 go_enter Tryz.func104, Tryz.ntmps104
 go_wp2
 go_loopw [0, 10] (fun t i wr => ∃ (k : Nat) (a1 a2 : Nat) (N' : List Nat → Option (Nat × Nat)) (M' : List Nat → Option Nat), k ≤ T.length ∧ i = .int .i64 k ∧ N' (T.take k) = some (a1, a2) ∧ t = .pointer (some ⟨a1, a2, none⟩) ∧ TreeI wr (fun j => F j ∨ w.heap.size ≤ j) N' M' V ∧ Only F w wr ∧ Hid (∀ q a, N q = some a → N' q = some a) ∧ Hid (NodeOut N w wr)) (fun _ i _ => T.length - (intOf i).toNat)
 case atStart => exact ⟨0, b, off, N, M, Nat.zero_le _, rfl, hr, rfl, h.mono (fun _ h => .inl h), Only.refl _ _, fun _ _ h => h, NodeOut.refl _ _⟩
 case round =>
   obtain ⟨k, a1, a2, N', M', hk, rfl, hN, rfl, ht, ho, Hmore, Hout⟩ := hrel
   by_cases hlt : k < T.length
   · have hTr : TokT wr (.slice ap T.length cp) T := HT.out.keep (ho.keep hFi)
     obtain ⟨bp, op, rfl, hbp, hc⟩ : ∃ b off, ap = some ⟨b, off, none⟩ ∧ b < wr.heap.size ∧ ∀ j, j < T.length → wr.cell? ⟨b, off + j, none⟩ = some (.int .i64 (tkI T j)) := by
       obtain ⟨a', c', e, _, _, h3⟩ := hTr.ints
       injection e with e1 _ _
       subst e1
       exact h3 (by omega)
     have ck := hc k hlt
     unfold tkI at ck
     have htk : tkN T k ≤ 1000 := by
       refine hb _ ?_
       unfold tkN
       rw [List.getD_eq_getElem?_getD]
       simp [hlt]
     have e1 : T.take k ++ [tkN T k] = T.take (k + 1) := by rw [take_snoc' _ 0 _ hlt]; rfl
     have hch := child_any _ N' M' V (T.take k) (tkN T k) a1 a2 wr ht hN htk
     rw [e1] at hch
     have Hch := hide hch
     clear hch hc e1 hTr
     generalize tkN T k = tk at ck Hch
     go_wp2_with fail
     refine Hch.out.mono ?_
     rintro e w1 ⟨a, N'', rfl, hN'', ⟨M'', ht''⟩, ho'', hm'', hno''⟩
     obtain ⟨x1, x2⟩ := a
     have hsz := ho.size
     have HN'' := hide hN''
     have ht3 : TreeI w1 (fun j => F j ∨ w.heap.size ≤ j) N'' M'' V := ht''.mono (fun j hj => by
       rcases hj with (hj | hj) | hj
       · exact .inl hj
       · exact .inr hj
       · right; omega)
     have ho3 : Only F w w1 := ho.trans ho'' (fun j hj h => by rcases h with h | h; exact h; omega)
     have hm3 : Hid (∀ q a, N q = some a → N'' q = some a) := fun q a hq => hm'' q a (Hmore.out q a hq)
     have Hout3 : Hid (NodeOut N w w1) := Hout.out.trans hno'' Hmore.out
     clear hN'' ht'' ho'' hm'' Hch hno''
     go_wp2
     go_roundw
     case rel => exact ⟨k + 1, x1, x2, N'', M'', by omega, by go_num, HN''.out, rfl, ht3, ho3, hm3, Hout3⟩
     case measure => simp [intOf]; omega
   · have hke : k = T.length := by omega
     have hall : T.take k = T := List.take_of_length_le (by omega)
     rw [hall] at hN
     obtain ⟨arr, ty, n0, n1, n2, n3⟩ := ht.node T _ hN
     simp only [] at n0 n1 n2 n3
     have c1 : wr.cell? ⟨a1, a2 + 1, none⟩ = some (blkV (V T)) := by rw [cell_blk n0]; exact n2
     have c2 : wr.cell? ⟨a1, a2 + 2, none⟩ = some (.bool (V T).isSome) := by rw [cell_blk n0]; exact n3
     have f1 := frozen_blk n0 (a2 + 1)
     have f2 := frozen_blk n0 (a2 + 2)
     obtain ⟨q1, q2, q3⟩ := ht.setV T a1 a2 (some B) hN
     have H3 := hide q3
     subst hke
     have hsz := ho.size
     have H1 := hide q1
     have H2 := hide q2
     clear q1 q2 q3 hall hN
     go_wp2
     refine bodyPost_end (v := .tuple #[]) (by simp [results, Tryz.results104]) rfl ⟨rfl, N', ⟨M', H1.out⟩, ho.trans H2.out (fun j hj h => by rcases h with h | h; exact h; omega), Hmore.out, Hout.out.trans H3.out Hmore.out⟩
theorem TreeI.look1 {w : World} {F : Nat → Prop} {N : List Nat → Option (Nat × Nat)} {M : List Nat → Option Nat} {V : List Nat → Option Nat} (h : TreeI w F N M V) (p : List Nat) (hp : N p ≠ none) (t : Nat) (ht : t ≤ 1000) :
   (Instr.lookup 65 (.map (M p)) (.int .i64 t) false).run Tryz.prog w = .ok ((nodeV (N (p ++ [t]))).getD (.pointer none)) w := by
 have hwf : (Lit.int .i64 (t : Int)).wf = true := int_wf t (by omega) (by omega)
 cases hm : M p with
 | none =>
   rw [Maps.look_nil false (Maps.int_keyed Tryz.underlying3) Tryz.underlying65 (Tryz.zero_node w) (Maps.keyOf_int_mk Tryz.underlying3 hwf), h.bare p hp hm t]
   rfl
 | some b =>
   have hv := h.kids p b hp hm
   rw [hv.look1 Tryz.underlying3 Tryz.underlying65 (Tryz.zero_node w) t hwf]
   unfold kidsOf
   rw [if_pos (by omega), Int.toNat_natCast]
def farTo (V : List Nat → Option Nat) (T : List Nat) : Nat → List Nat
 | 0 => []
 | n + 1 => if (V (T.take (n + 1))).isSome = true then T.take (n + 1) else farTo V T n
theorem farTo_some (V : List Nat → Option Nat) (T : List Nat) (n : Nat) (h : (V (T.take (n + 1))).isSome = true) : farTo V T (n + 1) = T.take (n + 1) := by simp only [farTo, if_pos h]
theorem farTo_none (V : List Nat → Option Nat) (T : List Nat) (n : Nat) (h : V (T.take (n + 1)) = none) : farTo V T (n + 1) = farTo V T n := by simp [farTo, h]
theorem farTo_stop (V : List Nat → Option Nat) (T : List Nat) (n : Nat) (h : ∀ m, n < m → m ≤ T.length → V (T.take m) = none) (m : Nat) (hn : n ≤ m) (hm : m ≤ T.length) : farTo V T m = farTo V T n := by
 induction m with
 | zero => rw [show n = 0 by omega]
 | succ m ih =>
   by_cases e : n = m + 1
   · rw [e]
   · rw [farTo_none V T m (h (m + 1) (by omega) hm)]; exact ih (by omega) (by omega)
def farOf (V : List Nat → Option Nat) (T : List Nat) : List Nat := farTo V T T.length
set_option maxRecDepth 100000 in
set_option maxHeartbeats 2000000 in
theorem treefar_any (F : Nat → Prop) (N : List Nat → Option (Nat × Nat)) (M : List Nat → Option Nat) (V : List Nat → Option Nat) (b off : Nat) (T : List Nat) (vp : Value) (w : World) (h : TreeI w F N M V) (hr : N [] = some (b, off)) (hT : TokT w vp T) (hb : ∀ t ∈ T, t ≤ 1000) :
   Calls Tryz.prog 65 #[.pointer (some ⟨b, off, none⟩), vp] w fun e w' => e = .returned (.tuple #[blkV (V (farOf V T)), .bool (V (farOf V T)).isSome]) ∧ ∃ q, w' = w.drewN q := by
 obtain ⟨ap, cp, rfl, hp1, hp2⟩ := hT.slice
 unfold maxLen at hp2
 have hcell : 0 < T.length → ∃ b off, ap = some ⟨b, off, none⟩ ∧ b < w.heap.size ∧ ∀ j, j < T.length → w.cell? ⟨b, off + j, none⟩ = some (.int .i64 (tkI T j)) := fun h0 => by
   obtain ⟨a', c', e, _, _, h3⟩ := hT.ints
   injection e with e1 _ _
   subst e1
   exact h3 h0
 have Hcell := hide hcell
 clear hcell
 obtain ⟨arr0, ty0, r0, r1, r2, r3⟩ := h.node [] _ hr
 simp only [] at r0 r1 r2 r3
 have x1 : w.cell? ⟨b, off + 1, none⟩ = some (blkV (V [])) := by rw [cell_blk r0]; exact r2
 have x2 : w.cell? ⟨b, off + 2, none⟩ = some (.bool (V []).isSome) := by rw [cell_blk r0]; exact r3
 clear r1 r2 r3
 go_enter Tryz.func65, Tryz.ntmps65
 go_wp2
 go_quiet (fail)
 clear x1 x2
 have hd : ∀ q, TreeI (w.drewN q) F N M V ∧ TokT (w.drewN q) (.slice ap T.length cp) T := fun q => ⟨h.keep (fun _ _ => rfl), hT⟩
 have hcl : ∀ q, (w.drewN q).heap = w.heap := fun q => rfl
 rename_i nq
 obtain ⟨h, hT⟩ := hd nq
 clear hd hcl r0 arr0 ty0
 have Hq : Hid (∃ q, w.drewN nq = w.drewN q) := ⟨nq, rfl⟩
 replace Hcell : Hid (0 < T.length → ∃ b off, ap = some ⟨b, off, none⟩ ∧ b < (w.drewN nq).heap.size ∧ ∀ j, j < T.length → (w.drewN nq).cell? ⟨b, off + j, none⟩ = some (.int .i64 (tkI T j))) := Hcell.out
 generalize w.drewN nq = W at h hT Hq Hcell ⊢
 go_wp2
 go_loop [0, 6, 7, 20] (fun t v o i => ∃ (k : Nat) (a : Nat × Nat), k ≤ T.length ∧ i = .int .i64 k ∧ N (T.take k) = some a ∧ t = .pointer (some ⟨a.1, a.2, none⟩) ∧ v = blkV (V (farTo V T k)) ∧ o = .bool (V (farTo V T k)).isSome) (fun _ _ _ i => T.length - (intOf i).toNat)
 case atStart => exact ⟨0, _, Nat.zero_le _, rfl, hr, rfl, rfl, rfl⟩
 case round =>
   obtain ⟨k, a, hk, rfl, hN, rfl, rfl, rfl⟩ := hrel
   obtain ⟨arr, ty, n0, n1, n2, n3⟩ := h.node _ a hN
   have HN := hide hN
   clear hN
   obtain ⟨a1, a2⟩ := a
   simp only [] at n0 n1 n2 n3
   by_cases hlt : k < T.length
   · obtain ⟨bp, op, rfl, hbp, hc⟩ := Hcell.out (by omega)
     have ck := hc k hlt
     unfold tkI at ck
     have c0 : W.cell? ⟨a1, a2, none⟩ = some (.map (M (T.take k))) := by rw [cell_blk n0]; exact n1
     have htk : tkN T k ≤ 1000 := by
       refine hb _ ?_
       unfold tkN
       rw [List.getD_eq_getElem?_getD]
       simp [hlt]
     have hlook := h.look1 (T.take k) (by rw [HN.out]; simp) (tkN T k) htk
     have e1 : T.take k ++ [tkN T k] = T.take (k + 1) := by rw [take_snoc' _ 0 _ hlt]; rfl
     rw [e1] at hlook
     have He1 := hide e1
     clear hc e1 n1 n2 n3
     generalize tkN T k = tk at ck hlook
     cases hn : N (T.take (k + 1)) with
     | none =>
       rw [hn] at hlook
       simp only [nodeV, Option.getD_none] at hlook
       have hfar : farOf V T = farTo V T k := by
         refine farTo_stop V T k (fun m h1 h2 => ?_) T.length (by omega) (Nat.le_refl _)
         have h3 : N (T.take m) = none := by
           have := h.none_on (T.take (k + 1)) ((T.take m).drop (k + 1)) hn
           have e : T.take (k + 1) = (T.take m).take (k + 1) := by rw [List.take_take]; congr 1; omega
           rw [e, List.take_append_drop] at this
           exact this
         cases hv : V (T.take m) with
         | none => rfl
         | some B => exact absurd h3 (h.told _ (by rw [hv]; simp))
       have Hfar := hide hfar
       clear hn hfar
       go_wp2
       go_ret2
       rw [Hfar.out]
       exact ⟨rfl, Hq.out⟩
     | some a' =>
       rw [hn] at hlook
       simp only [nodeV, Option.getD_some] at hlook
       obtain ⟨arr', ty', m0, m1, m2, m3⟩ := h.node _ a' hn
       have Hn := hide hn
       clear hn
       obtain ⟨x, y⟩ := a'
       simp only [] at m0 m1 m2 m3 hlook
       have d1 : W.cell? ⟨x, y + 1, none⟩ = some (blkV (V (T.take (k + 1)))) := by rw [cell_blk m0]; exact m2
       have d2 : W.cell? ⟨x, y + 2, none⟩ = some (.bool (V (T.take (k + 1))).isSome) := by rw [cell_blk m0]; exact m3
       have Hs := hide (farTo_some V T k)
       have Hno := hide (farTo_none V T k)
       cases hv : V (T.take (k + 1)) with
       | none =>
         rw [hv] at d2
         rw [hv] at Hno
         simp only [Option.isSome_none] at d2
         go_wp2
         go_round
         case rel => exact ⟨k + 1, (x, y), by omega, by go_num, Hn.out, rfl, by rw [Hno.out rfl], by rw [Hno.out rfl]⟩
         case measure => simp [intOf]; omega
       | some B =>
         rw [hv] at d1 d2
         simp only [Option.isSome_some] at d2
         go_wp2
         go_round
         case rel => exact ⟨k + 1, (x, y), by omega, by go_num, Hn.out, rfl, by rw [Hs.out (by rw [hv]; rfl), hv], by rw [Hs.out (by rw [hv]; rfl), hv]; rfl⟩
         case measure => simp [intOf]; omega
   · have hke : k = T.length := by omega
     subst hke
     go_wp2
     go_ret2
     exact ⟨rfl, Hq.out⟩
def idAt (L : List (Int × Key)) (i : Nat) : Int := (L.getD i (0, ([], 0))).1
def toksAt (L : List (Int × Key)) (i : Nat) : List Nat := (L.getD i (0, ([], 0))).2.1
def tailAt (L : List (Int × Key)) (i : Nat) : Nat := (L.getD i (0, ([], 0))).2.2
def SeqsI (ok : Nat → Prop) (w : World) (vL : Value) (L : List (Int × Key)) : Prop :=
 ∃ F : Nat → Value, w.ownsRow 0 113 3 vL L.length ((List.range (L.length * 3)).map F) ∧ ∀ i, i < L.length → F (i * 3) = .int .i64 (idAt L i) ∧ (TokT w (F (i * 3 + 1)) (toksAt L i) ∧ okV ok (F (i * 3 + 1))) ∧ F (i * 3 + 2) = .int .i64 (tailAt L i)
structure TailsOk (s : Nat) (L : List (Int × Key)) (nt : Nat) : Prop where
 key : ∀ x ∈ L, keyOk s x.2
 le : ∀ x ∈ L, x.2.2 ≤ nt
 same : ∀ x ∈ L, ∀ y ∈ L, x.2.2 = y.2.2 → x.2.2 ≠ 0 → x.2 = y.2
def IdleI (ok : Nat → Prop) (w : World) (v : Value) (il : List (List Nat)) : Prop :=
 (v = .slice none 0 0 ∧ il = []) ∨ ∃ (b off cap : Nat) (cur : Array Value), v = .slice (some ⟨b, off, none⟩) il.length cap ∧ w.heap[b]? = some (.cells cur 36 (0, 0)) ∧ il.length ≤ cap ∧ cap ≤ maxLen ∧ off + cap ≤ cur.size ∧
   ∀ i, i < il.length → ∃ v, cur[off + i]? = some v ∧ TokT w v (il.getD i []) ∧ okV ok v
structure RefI (ok : Nat → Prop) (w : World) (Y d : Nat) (c : Cfg) (L : List (Int × Key)) (il : List (List Nat)) (nt : Nat) (vL vI : Value) : Prop where
 obj : w.heap[Y]? = some (.cells #[.pointer (some ⟨d, 0, none⟩), vL, vI, .int .i64 nt] 85 (0, 0))
 seqs : SeqsI ok w vL L
 idle : IdleI ok w vI il
 dec : RefDec w d c
 tails : TailsOk c.slots L nt
 many : L.length ≤ 8
 len : ∀ x ∈ L, 1 ≤ x.2.1.length ∧ x.2.1.length ≤ 40
 toks : ∀ x ∈ L, ∀ t ∈ x.2.1, t < c.vocab
 ilen : il.length ≤ 1000
 ilne : ∀ p ∈ il, 1 ≤ p.length ∧ p.length ≤ 40
theorem at_mem {L : List (Int × Key)} {i : Nat} (h : i < L.length) : (idAt L i, (toksAt L i, tailAt L i)) ∈ L := by
 unfold idAt toksAt tailAt
 rw [List.getD_eq_getElem?_getD, List.getElem?_eq_getElem h]
 exact List.getElem_mem h
theorem RefI.lenAt {ok : Nat → Prop} {w : World} {Y d : Nat} {c : Cfg} {L : List (Int × Key)} {il : List (List Nat)} {nt : Nat} {vL vI : Value} (h : RefI ok w Y d c L il nt vL vI) (i : Nat) (hi : i < L.length) : 1 ≤ (toksAt L i).length ∧ (toksAt L i).length ≤ 40 := h.len _ (at_mem hi)
def KeepOk (ok : Nat → Prop) (w w' : World) : Prop := ∀ b cur fr, ok b → w.heap[b]? = some (.cells cur 3 fr) → w'.heap[b]? = some (.cells cur 3 fr)
theorem KeepOk.of {ok : Nat → Prop} {w w' : World} (h : KeepT 3 w w') : KeepOk ok w w' := fun b cur fr _ hb => h b cur fr hb
theorem SeqsI.stays {ok ok' : Nat → Prop} {w w' : World} {vL : Value} {L : List (Int × Key)} (h : SeqsI ok w vL L) (hb : ∀ k, vL.ownBlock = some k → w'.heap[k]? = w.heap[k]?) (hk : KeepOk ok w w') (hm : ∀ b, ok b → ok' b) : SeqsI ok' w' vL L := by
 obtain ⟨F, ⟨h1, h2⟩, h3⟩ := h
 refine ⟨F, ⟨h1, ?_⟩, fun i hi => ⟨(h3 i hi).1, ⟨(h3 i hi).2.1.1.stays (h3 i hi).2.1.2 hk, (h3 i hi).2.1.2.mono hm⟩, (h3 i hi).2.2⟩⟩
 rcases h2 with h2 | ⟨g, cap, cur, e', hg, hh, rest⟩
 · exact .inl h2
 · exact .inr ⟨g, cap, cur, e', hg, (hb g (by rw [e']; rfl)).trans hh, rest⟩
theorem IdleI.stays {ok ok' : Nat → Prop} {w w' : World} {v : Value} {il : List (List Nat)} (h : IdleI ok w v il) (hb : ∀ a n c, v = .slice (some a) n c → w'.heap[a.block]? = w.heap[a.block]?) (hk : KeepOk ok w w') (hm : ∀ b, ok b → ok' b) : IdleI ok' w' v il := by
 rcases h with h | ⟨b, off, cap, cur, e, q1, q2, q3, q4, q5⟩
 · exact .inl h
 · refine .inr ⟨b, off, cap, cur, e, (hb _ _ _ e).trans q1, q2, q3, q4, fun i hi => ?_⟩
   obtain ⟨v, r1, r2, r3⟩ := q5 i hi
   exact ⟨v, r1, r2.stays r3 hk, r3.mono hm⟩
theorem SeqsI.below {ok : Nat → Prop} {w w' : World} {vL : Value} {L : List (Int × Key)} (h : SeqsI ok w vL L) (hb : Below w.heap.size w w') : SeqsI ok w' vL L := by
 refine h.stays (fun k hk => ?_) (KeepOk.of (KeepT.of_below hb)) (fun _ h => h)
 obtain ⟨F, h1, _⟩ := h
 exact hb.block k (h1.lt k hk).2
theorem IdleI.own {ok : Nat → Prop} {w : World} {v : Value} {il : List (List Nat)} (h : IdleI ok w v il) {a : Addr} {n c : Nat} (e : v = .slice (some a) n c) : ∃ cur, w.heap[a.block]? = some (.cells cur 36 (0, 0)) := by
 rcases h with ⟨h, _⟩ | ⟨b, off, cap, cur, e', q1, _⟩
 · rw [h] at e; cases e
 · rw [e'] at e; cases e; exact ⟨_, q1⟩
theorem IdleI.below {ok : Nat → Prop} {w w' : World} {v : Value} {il : List (List Nat)} (h : IdleI ok w v il) (hb : Below w.heap.size w w') : IdleI ok w' v il :=
 h.stays (fun a n c e => by obtain ⟨cur, q⟩ := h.own e; exact hb.block _ (lt_blk q)) (KeepOk.of (KeepT.of_below hb)) (fun _ h => h)
theorem RefI.below {ok : Nat → Prop} {w w' : World} {Y d : Nat} {c : Cfg} {L : List (Int × Key)} {il : List (List Nat)} {nt : Nat} {vL vI : Value} (h : RefI ok w Y d c L il nt vL vI) (hb : Below w.heap.size w w') : RefI ok w' Y d c L il nt vL vI :=
 ⟨by rw [hb.block Y (lt_blk h.obj)]; exact h.obj, h.seqs.below hb, h.idle.below hb, h.dec.below hb, h.tails, h.many, h.len, h.toks, h.ilen, h.ilne⟩
theorem IdleI.row {ok : Nat → Prop} {w : World} {v : Value} {il : List (List Nat)} (h : IdleI ok w v il) : TokRow w v il := by
 rcases h with ⟨rfl, rfl⟩ | ⟨b, off, cap, cur, rfl, q1, q2, q3, q4, q5⟩
 · exact TokRow.nil w
 · refine ⟨fun i => (cur[off + i]?).getD undef, ⟨_, cap, rfl, q2, q3, fun _ => ⟨b, off, rfl, lt_blk q1, fun j hj => ?_⟩⟩, fun i hi => ?_⟩
   · obtain ⟨v, r1, _⟩ := q5 j hj
     rw [cell_blk q1]
     show cur[off + j]? = some ((cur[off + j]?).getD undef)
     rw [r1]; rfl
   · obtain ⟨v, r1, r2, _⟩ := q5 i hi
     show TokT w ((cur[off + i]?).getD undef) _
     rw [r1]; exact r2
theorem SeqsI.cells {ok : Nat → Prop} {w : World} {vL : Value} {L : List (Int × Key)} (h : SeqsI ok w vL L) : ∃ a cap, vL = .slice a L.length cap ∧ L.length ≤ cap ∧ cap ≤ maxLen ∧
   (0 < L.length → ∃ g, a = some ⟨g, 0, none⟩ ∧ g < w.heap.size ∧ ∀ i, i < L.length → w.cell? ⟨g, i * 3, none⟩ = some (.int .i64 (idAt L i)) ∧ (∃ v, w.cell? ⟨g, i * 3 + 1, none⟩ = some v ∧ TokT w v (toksAt L i) ∧ okV ok v) ∧ w.cell? ⟨g, i * 3 + 2, none⟩ = some (.int .i64 (tailAt L i))) := by
 obtain ⟨F, ⟨_, ⟨rfl, e⟩ | ⟨g, cap, cur, rfl, hb, hg, hn, hm, hs, ht⟩⟩, h2⟩ := h
 · exact ⟨none, 0, by rw [e], by omega, by simp [maxLen], fun h0 => absurd h0 (by omega)⟩
 · refine ⟨_, cap, rfl, hn, hm, fun _ => ⟨g, rfl, lt_blk hg, fun i hi => ?_⟩⟩
   have cell : ∀ j, j < L.length * 3 → w.cell? ⟨g, j, none⟩ = some (F j) := fun j hj => by
     have h1 := congrArg (fun l => l[j]?) ht
     simp [hj] at h1
     rw [cell_blk hg]; simpa using h1
   obtain ⟨q1, q2, q3⟩ := h2 i hi
   exact ⟨by rw [cell _ (by omega), q1], ⟨_, cell _ (by omega), q2⟩, by rw [cell _ (by omega), q3]⟩
set_option maxRecDepth 100000 in
set_option maxHeartbeats 1000000 in
theorem reffind_any (Y : Nat) (id : Int) (vL : Value) (L : List (Int × Key)) (ok : Nat → Prop) (w : World) (hY : w.cell? ⟨Y, 1, none⟩ = some vL) (hL : SeqsI ok w vL L) (hn : L.length ≤ 1000) :
   Calls Tryz.prog 57 #[.pointer (some ⟨Y, 0, none⟩), .int .i64 id] w fun e w' =>
     (e = .returned (.int .i64 (-1)) ∧ (∀ i, i < L.length → idAt L i ≠ id) ∨ ∃ k : Nat, e = .returned (.int .i64 k) ∧ k < L.length ∧ idAt L k = id ∧ ∀ j, j < k → idAt L j ≠ id) ∧ w' = w := by
 obtain ⟨a, cap, rfl, hc1, hc2, hcells⟩ := hL.cells
 have HC := hide hcells
 clear hcells
 go_enter Tryz.func57, Tryz.ntmps57
 go_wp2
 go_loop [5] (fun i => ∃ k : Nat, k ≤ L.length ∧ i = .int .i64 k ∧ Hid (∀ j, j < k → idAt L j ≠ id)) (fun i => L.length - (intOf i).toNat)
 case atStart => exact ⟨0, Nat.zero_le _, rfl, fun j hj => absurd hj (by omega)⟩
 case round =>
   obtain ⟨k, hk, rfl, Hne⟩ := hrel
   by_cases hlt : k < L.length
   · obtain ⟨g, rfl, hg, hcell⟩ := HC.out (by omega)
     obtain ⟨c0, _, _⟩ := hcell k hlt
     clear hcell
     by_cases he : idAt L k = id
     · rw [he] at c0
       go_wp2
       go_ret
       exact ⟨.inr ⟨k, rfl, hlt, he, Hne.out⟩, rfl⟩
     · have hd : decide (idAt L k = id) = false := by simpa using he
       go_wp2
       go_round
       case rel =>
         refine ⟨k + 1, by omega, by go_num, fun j hj => ?_⟩
         by_cases e : j = k
         · subst e; exact he
         · exact Hne.out j (by omega)
       case measure => simp [intOf]; omega
   · go_wp2
     go_ret
     exact ⟨.inl ⟨rfl, fun i hi => Hne.out i (by omega)⟩, rfl⟩
end Go.Proofs.YtlmflighkkgikaaGreat
namespace Go.Proofs.YtlmflighkkgikaaGreat
open Go.RowKit
theorem topTo_max (f : Nat → Int) (n : Nat) (h : 0 < n) : topTo f (n + 1) = if topTo f n < f n then f n else topTo f n := by
 by_cases e : topTo f n < f n
 · rw [topTo_hit f n h e, if_pos e]
 · rw [topTo_miss f n h (by omega), if_neg e]
set_option maxHeartbeats 400000 in
theorem max_any (n : Nat) (va : Value) (a : Nat → Int) (w : World) (ha : IntsT w va n a) (hn1 : 1 ≤ n) (hn : n ≤ 1000) :
   Calls Tryz.prog 117 #[va] w fun e w' => e = .returned (.int .i64 (topTo a n)) ∧ w' = w := by
 obtain ⟨aa, ca, rfl, ha1, ha3⟩ := ha.at
 obtain ⟨b1, o1, rfl, hlb1, hc1⟩ := ha3 (by omega)
 have c0 : w.cell? ⟨b1, o1, none⟩ = some (.int .i64 (a 0)) := by simpa using hc1 0 (by omega)
 have Hc1 := hide hc1
 clear hc1 ha3 ha
 go_enter Tryz.func117, Tryz.ntmps117
 go_wp2
 go_loop [3, 4] (fun s i => ∃ k : Nat, 1 ≤ k ∧ k ≤ n ∧ i = .int .i64 k ∧ s = .int .i64 (topTo a k)) (fun _ i => n - (intOf i).toNat)
 case atStart => exact ⟨1, by omega, by omega, rfl, rfl⟩
 case round =>
   obtain ⟨k, hk1, hk, rfl, rfl⟩ := hrel
   by_cases hlt : k < n
   · have c1 := Hc1.out k hlt
     have Ht := hide (topTo_max a k (by omega))
     go_wp2
     all_goals go_round
     all_goals try (case measure => simp [intOf]; omega)
     all_goals exact ⟨k + 1, by omega, by omega, by go_num, by rw [Ht.out]⟩
   · have hkr : n = k := by omega
     subst hkr
     go_wp2
     go_ret
     exact ⟨rfl, rfl⟩
theorem shareOf_le (d : Int) (h0 : 0 ≤ d) (h : d ≤ 16) : shareOf d = halved d.toNat := by
 unfold shareOf; rw [show min d.toNat 17 = d.toNat by omega]
theorem shareOf_gt (d : Int) (h : 16 < d) : shareOf d = 0 := by
 unfold shareOf; rw [show min d.toNat 17 = 17 by omega]; rfl
set_option maxHeartbeats 400000 in
theorem shares_any (n : Nat) (va : Value) (a : Nat → Int) (w : World) (ha : IntsT w va n a) (hn1 : 1 ≤ n) (hn : n ≤ 1000) (ba : ∀ j, -67076100 ≤ a j ∧ a j ≤ 67076100) :
   Calls Tryz.prog 122 #[va] w fun e w' => e = .returned (.slice (some ⟨w.heap.size, 0, none⟩) n n) ∧ IntsT w' (.slice (some ⟨w.heap.size, 0, none⟩) n n) n (shareAt (n - 1) a) ∧ Below w.heap.size w w' := by
 have HT := hide (show topTo a n = maxTo a (n - 1) from by obtain ⟨m, rfl⟩ : ∃ m, n = m + 1 := ⟨n - 1, by omega⟩; rfl)
 have Hmax := hide (fun t (ht : t ≤ n - 1) => maxTo_ge a (n - 1) t ht)
 have htb : -67076100 ≤ topTo a n ∧ topTo a n ≤ 67076100 := by
   rw [HT.out]
   obtain ⟨j, hj, e⟩ := maxTo_is a (n - 1)
   rw [e]; exact ba j
 obtain ⟨htb1, htb2⟩ := htb
 have hmk := run_make_row' (P := Tryz.prog) 36 3 (.int .i64 0) 8 Tryz.underlying36 Tryz.info_int rfl .i64 .i64 n (by omega) (by omega)
 obtain ⟨aa, ca, rfl, ha1, ha3⟩ := ha.at
 obtain ⟨b1, o1, rfl, hlb1, hc1⟩ := ha3 (by omega)
 have Hc1 := hide hc1
 clear hc1 ha3
 go_enter Tryz.func122, Tryz.ntmps122
 go_wp2_with fail
 refine Calls_use (max_any n _ a _ ha hn1 hn) ?_
 generalize topTo a n = top at HT htb1 htb2 ⊢
 go_wp2
 clear hmk
 go_loopw [15] (fun i wr => ∃ k : Nat, k ≤ n ∧ i = .int .i64 k ∧ wr.rowIs w.heap.size 3 n (fun j => .int .i64 (filled (shareAt (n - 1) a) k j)) ∧ Below w.heap.size w wr) (fun i _ => n - (intOf i).toNat)
 case atStart => exact ⟨0, Nat.zero_le _, rfl, fill_start w n _, (Below.refl _ _).alloc (Nat.le_refl _) _⟩
 case round =>
   obtain ⟨k, hk, rfl, hrow, hbel⟩ := hrel
   by_cases hlt : k < n
   · have c1 := (hbel.cell (p := ⟨b1, o1 + k, none⟩) hlb1).trans (Hc1.out k hlt)
     have c3 := hrow.cell hlt
     have c4 := hrow.frozen k
     obtain ⟨x1, x2⟩ := ba k
     have hD : 0 ≤ top - a k := by have := Hmax.out k (by omega); rw [HT.out]; omega
     have HX := hide (show shareAt (n - 1) a k = shareOf (top - a k) from by unfold shareAt; rw [HT.out])
     by_cases h16 : top - a k ≤ 16
     · go_wp2
       go_roundw
       case rel => exact ⟨k + 1, by omega, by go_num, fill_step hrow (by rw [HX.out, shareOf_le _ hD h16]; rfl), hbel.setCell (Nat.le_refl _) _⟩
       case measure => simp [intOf]; omega
     · have hz : filled (shareAt (n - 1) a) k k = 0 := by unfold filled; simp
       go_wp2
       go_roundw
       case rel =>
         refine ⟨k + 1, by omega, by go_num, hrow.congr (fun i hi => ?_), hbel⟩
         unfold filled
         by_cases e : i = k
         · subst e; rw [if_neg (by omega), if_pos (by omega), HX.out, shareOf_gt _ (by omega)]
         · by_cases h1 : i < k
           · rw [if_pos h1, if_pos (by omega)]
           · rw [if_neg h1, if_neg (by omega)]
       case measure => simp [intOf]; omega
   · have hkr : n = k := by omega
     subst hkr
     go_wp2
     go_ret
     exact ⟨rfl, fill_done hrow (by unfold maxLen; omega), hbel⟩
end Go.Proofs.YtlmflighkkgikaaGreat
