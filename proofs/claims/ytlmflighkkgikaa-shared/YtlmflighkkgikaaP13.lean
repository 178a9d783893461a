import Derived.Test.YtlmflighkkgikaaP01
import Derived.Test.YtlmflighkkgikaaP11

namespace Go.Proofs.Ytlmflighkkgikaa
open Go.RowKit
attribute [local go_sem ↓] Go.wp_at_zero Go.wp_at_succ
theorem TreeI.dropNode {w w' : World} {F : Nat → Prop} {N : List Nat → Option (Nat × Nat)} {M : List Nat → Option Nat} {V : List Nat → Option Nat} (h : TreeI w F N M V) (p : List Nat) (t mb n' : Nat) (hp : N p ≠ none) (hm : M p = some mb) (hn : N (p ++ [t]) ≠ none) (hv0 : V (p ++ [t]) = none) (hk0 : ∀ u, N (p ++ [t] ++ [u]) = none)
   (hg : w.grownBy w' (some mb)) (hn' : kidsN N p = n' + 1) (hv : MapV Try.prog 3 w' mb n' (fun y => if y = (t : Int) then none else kidsOf N p y)) :
   TreeI w' F (fun q => if q = p ++ [t] then none else N q) M V ∧ Only F w w' ∧ NodeOut N w w' := by
 have htl := h.low p t hn
 have old : ∀ k o, w.heap[k]? = some o → k ≠ mb → w'.heap[k]? = some o := fun k o hk hne => by
   rw [hg.block k (lt_blk hk) (fun e => hne (by injection e))]; exact hk
 have cellne : ∀ b arr ty, w.heap[b]? = some (.cells arr ty (0, 0)) → b ≠ mb := fun b arr ty hb e => by
   obtain ⟨es, cl, ho⟩ := (h.kids p mb hp hm).obj
   rw [e, ho] at hb; cases hb
 have sub : ∀ q a, (if q = p ++ [t] then none else N q) = some a → N q = some a ∧ q ≠ p ++ [t] := fun q a hq => by
   by_cases e : q = p ++ [t]
   · simp [e] at hq
   · rw [if_neg e] at hq; exact ⟨hq, e⟩
 have subn : ∀ q, (if q = p ++ [t] then none else N q) ≠ none → N q ≠ none ∧ q ≠ p ++ [t] := fun q hq => by
   by_cases e : q = p ++ [t]
   · simp [e] at hq
   · rw [if_neg e] at hq; exact ⟨hq, e⟩
 refine ⟨⟨?_, fun q a hq => ?_, fun q hq hmq u => ?_, fun q b hq hmq => ?_, fun q u hq => ?_, fun q r a a' hq hr e => ?_, fun q r b hq hr hmq hmr => ?_, fun q hq => ?_, fun q a hq => h.foot q a (sub q a hq).1, fun q b hq hmq => h.mfoot q b (subn q hq).1 hmq, fun q a arr2 ty2 fr2 hq ha => ?_, fun q u hq => h.low q u (subn _ hq).1⟩, ?_, fun q a arr2 ty2 hq ha => ⟨arr2, old _ _ ha (cellne _ _ _ ha), rfl, fun _ _ => rfl⟩⟩
 · obtain ⟨a, ha⟩ := h.root
   exact ⟨a, by rw [if_neg (fun e => by have := congrArg List.length e; simp at this)]; exact ha⟩
 · obtain ⟨arr, ty, m0, m1, m2, m3⟩ := h.node q a (sub q a hq).1
   exact ⟨arr, ty, old _ _ m0 (cellne _ _ _ m0), m1, m2, m3⟩
 · have := h.bare q (subn q hq).1 hmq u
   by_cases e : q ++ [u] = p ++ [t]
   · rw [if_pos e]
   · rw [if_neg e]; exact this
 · obtain ⟨hq1, hq2⟩ := subn q hq
   by_cases e2 : q = p
   · subst e2
     rw [hm] at hmq
     injection hmq with hmq
     subst hmq
     have e4 : kidsN (fun r => if r = q ++ [t] then none else N r) q = n' := by
       have := kidsN_more (N := fun r => if r = q ++ [t] then none else N r) (N' := N) (p := q) htl (by simp) hn (fun u hu => (if_neg (fun e => hu (snoc_inj e).2)).symm)
       omega
     rw [e4]
     have e3 : kidsOf (fun r => if r = q ++ [t] then none else N r) q = fun y => if y = (t : Int) then none else kidsOf N q y := by
       funext y
       unfold kidsOf
       dsimp only
       by_cases hy : y = (t : Int)
       · subst hy
         rw [if_pos (by omega), if_pos rfl, if_pos (by simp)]; rfl
       · rw [if_neg hy]
         by_cases h0 : 0 ≤ y
         · rw [if_pos h0, if_pos h0, if_neg (fun e => by
             have := (snoc_inj e).2
             omega)]
         · rw [if_neg h0, if_neg h0]
     rw [e3]; exact hv
   · have hv0 := h.kids q b hq1 hmq
     have hbne : b ≠ mb := fun e' => e2 (h.minj q p b hq1 hp hmq (by rw [e']; exact hm))
     have e4 : kidsN (fun r => if r = p ++ [t] then none else N r) q = kidsN N q := kidsN_congr (fun u => if_neg (fun e => e2 (snoc_inj e).1))
     rw [e4]
     have e3 : kidsOf (fun r => if r = p ++ [t] then none else N r) q = kidsOf N q := by
       funext y
       unfold kidsOf
       dsimp only
       rw [if_neg (fun e => e2 (snoc_inj e).1)]
     rw [e3]
     refine hv0.keep ?_
     obtain ⟨es, cl, ho⟩ := hv0.obj
     rw [ho]; exact old _ _ ho hbne
 · obtain ⟨hq1, hq2⟩ := subn _ hq
   have := h.pre q u hq1
   rw [if_neg (fun e => hq1 (by rw [e]; exact hk0 u))]
   exact this
 · exact h.inj q r a a' (sub q a hq).1 (sub r a' hr).1 e
 · exact h.minj q r b (subn q hq).1 (subn r hr).1 hmq hmr
 · rw [if_neg (fun e => hq (by rw [e]; exact hv0))]
   exact h.told q hq
 · obtain ⟨hq1, _⟩ := sub q a hq
   obtain ⟨arr', ty', m0, _⟩ := h.node q a hq1
   rw [old _ _ m0 (cellne _ _ _ m0)] at ha
   injection ha with ha
   injection ha with _ ha _
   rw [← ha]; exact h.kind q a arr' ty' _ hq1 m0
 · exact (Only.refl F w).grown hg (fun g hgg _ => by injection hgg with hgg; subst hgg; exact h.mfoot p _ hp hm)
theorem TokT.drop1 {w : World} {b off n c t : Nat} {T : List Nat} (h : TokT w (.slice (some ⟨b, off, none⟩) n c) (t :: T)) : TokT w (.slice (some ⟨b, off + 1, none⟩) T.length (c - 1)) T := by
 obtain ⟨a', c', e, h1, h2, h3⟩ := h
 injection e with e1 e2 e3
 subst e1 e2 e3
 simp only [List.length_cons] at h1 h3
 refine ⟨_, c - 1, rfl, by omega, by omega, fun h0 => ?_⟩
 obtain ⟨b', off', cur, fr, ea, hb, hc⟩ := h3 (by omega)
 injection ea with ea
 injection ea with ea1 ea2 _
 subst ea1 ea2
 refine ⟨b, off + 1, cur, fr, rfl, hb, fun j hj => ?_⟩
 have := hc (j + 1) (by omega)
 rw [show off + 1 + j = off + (j + 1) by omega, this]
 rfl
structure TreeLess (w w' : World) (F : Nat → Prop) (N N' : List Nat → Option (Nat × Nat)) (M : List Nat → Option Nat) (V' : List Nat → Option Nat) (q : List Nat) : Prop where
 tree : TreeI w' F N' M V'
 only : Only F w w'
 less : ∀ p, N' p = N p ∨ (N' p = none ∧ q <+: p ∧ p ≠ q)
 out : NodeOut N w w'
theorem TreeLess.undrew {w w' : World} {F : Nat → Prop} {N N' : List Nat → Option (Nat × Nat)} {M : List Nat → Option Nat} {V' : List Nat → Option Nat} {q : List Nat} (h : TreeLess w.drew w' F N N' M V' q) : TreeLess w w' F N N' M V' q :=
 ⟨h.tree, ⟨h.only.os, h.only.tape, h.only.output, h.only.size, h.only.block⟩, h.less, h.out⟩
structure DelAt (w1 : World) (N1 : List Nat → Option (Nat × Nat)) (M : List Nat → Option Nat) (V1 : List Nat → Option Nat) (q : List Nat) (t b off x y bp op : Nat) : Prop where
 node : N1 (q ++ [t]) = some (x, y)
 here : N1 q = some (b, off)
 kids : w1.cell? ⟨b, off, none⟩ = some (.map (M q))
 has : w1.cell? ⟨x, y + 2, none⟩ = some (.bool (V1 (q ++ [t])).isSome)
 under : w1.cell? ⟨x, y, none⟩ = some (.map (M (q ++ [t])))
 path : w1.cell? ⟨bp, op, none⟩ = some (.int .i64 t)
 len : ∀ ty, (Builtin.len_ #[65] ty #[.map (M (q ++ [t]))]).run Try.prog w1 = .ok (.int .i64 (kidsN N1 (q ++ [t]))) w1
 drop : V1 (q ++ [t]) = none → kidsN N1 (q ++ [t]) = 0 → ∃ mb w2 N2, M q = some mb ∧ (∀ ty, (Builtin.delete_ #[65, 3] ty #[.map (some mb), .int .i64 t]).run Try.prog w1.drew = .ok (.tuple #[]) w2) ∧ w2.cell? ⟨b, off, none⟩ = some (.map (some mb)) ∧ w2.cell? ⟨bp, op, none⟩ = some (.int .i64 t) ∧ ∀ F w N, TreeLess w w1 F N N1 M V1 (q ++ [t]) → TreeLess w w2 F N N2 M V1 q
theorem TreeLess.up {w w' : World} {F : Nat → Prop} {N N' : List Nat → Option (Nat × Nat)} {M : List Nat → Option Nat} {V' : List Nat → Option Nat} {q : List Nat} {t : Nat} (h : TreeLess w w' F N N' M V' (q ++ [t])) : TreeLess w w' F N N' M V' q :=
 ⟨h.tree, h.only, fun p => (h.less p).imp id (fun ⟨h1, h2, h3⟩ => ⟨h1, (List.prefix_append q [t]).trans h2, fun e => by
   subst e
   have := h2.length_le
   simp only [List.length_append, List.length_singleton] at this
   omega⟩), h.out⟩
theorem TreeLess.delAt {w w1 : World} {F : Nat → Prop} {N N1 : List Nat → Option (Nat × Nat)} {M : List Nat → Option Nat} {V1 : List Nat → Option Nat} {q : List Nat} {t b off x y bp op : Nat} (h : TreeLess w w1 F N N1 M V1 (q ++ [t])) (hq : N q = some (b, off)) (hn : N (q ++ [t]) = some (x, y)) (ck : w.cell? ⟨bp, op, none⟩ = some (.int .i64 t))
   (hk : KeepT 3 w w1) (hbp : ∃ cur fr, w.heap[bp]? = some (.cells cur 3 fr)) (ht : t ≤ 1000) : DelAt w1 N1 M V1 q t b off x y bp op := by
 have e1 : N1 (q ++ [t]) = some (x, y) := by
   rcases h.less (q ++ [t]) with e | ⟨_, _, e⟩
   · rw [e]; exact hn
   · exact absurd rfl e
 have e2 : N1 q = some (b, off) := by
   rcases h.less q with e | ⟨_, e, _⟩
   · rw [e]; exact hq
   · have := e.length_le
     simp only [List.length_append, List.length_singleton] at this
     omega
 have nn : N1 (q ++ [t]) ≠ none := by rw [e1]; simp
 have qn : N1 q ≠ none := by rw [e2]; simp
 obtain ⟨arr, ty, n0, n1, n2, n3⟩ := h.tree.node q _ e2
 obtain ⟨arr', ty', m0, m1, m2, m3⟩ := h.tree.node (q ++ [t]) _ e1
 simp only [] at n0 n1 n2 n3 m0 m1 m2 m3
 refine ⟨e1, e2, by rw [cell_blk n0]; exact n1, by rw [cell_blk m0]; exact m3, by rw [cell_blk m0]; exact m1, ?_, fun ty => ?_, fun hv hz => ?_⟩
 · obtain ⟨cur, fr, hb⟩ := hbp
   rw [cell_blk (hk _ _ _ hb)]
   rw [cell_blk hb] at ck
   exact ck
 · cases hm : M (q ++ [t]) with
   | none =>
     have : kidsN N1 (q ++ [t]) = 0 := by
       unfold kidsN
       rw [List.countP_eq_zero]
       intro u _
       rw [h.tree.bare _ nn hm u]
       simp
     rw [this]
     exact Maps.len_nil Try.underlying65 ty
   | some mb => exact (h.tree.kids _ mb nn hm).len Try.underlying65 ty
 · cases hm : M q with
   | none => exact absurd (h.tree.bare q qn hm t) nn
   | some mb =>
     have hv1 := h.tree.kids q mb qn hm
     have hpos : ∃ n', kidsN N1 q = n' + 1 := by
       cases hk0 : kidsN N1 q with
       | zero => exact absurd (kidsN_zero hk0 t ht) nn
       | succ n' => exact ⟨n', rfl⟩
     obtain ⟨n', hn'⟩ := hpos
     rw [hn'] at hv1
     have hM0 : kidsOf N1 q (t : Int) ≠ none := by
       unfold kidsOf
       rw [if_pos (by omega), Int.toNat_natCast, e1]
       simp [nodeV]
     obtain ⟨w2, hrun, hv2, hg, _⟩ := (show MapV Try.prog 3 w1.drew mb (n' + 1) (kidsOf N1 q) from hv1.keep rfl).drop Try.underlying3 Try.underlying65 0 (t : Int) (int_wf t (by omega) (by omega)) hM0
     refine ⟨mb, w2, fun p => if p = q ++ [t] then none else N1 p, rfl, fun ty => hrun, ?_, ?_, fun F w N h' => ?_⟩
     · have hne : b ≠ mb := fun e => by
         obtain ⟨es, cl, ho⟩ := hv1.obj
         rw [← e, n0] at ho; cases ho
       have e5 := (hg.block b (lt_blk (show w1.drew.heap[b]? = _ from n0)) (fun e => hne (by injection e))).trans (show w1.drew.heap[b]? = _ from n0)
       rw [cell_blk e5, ← hm]; exact n1
     · obtain ⟨cur, fr, hb⟩ := hbp
       have hb1 := hk _ _ _ hb
       have hne : bp ≠ mb := fun e => by
         obtain ⟨es, cl, ho⟩ := hv1.obj
         rw [← e, hb1] at ho; cases ho
       have e5 := (hg.block bp (lt_blk (show w1.drew.heap[bp]? = _ from hb1)) (fun e => hne (by injection e))).trans (show w1.drew.heap[bp]? = _ from hb1)
       rw [cell_blk e5]
       rw [cell_blk hb] at ck
       exact ck
     have hd : TreeI w1.drew F N1 M V1 := h'.tree.keep (fun _ _ => rfl)
     have hk0 : ∀ u, N1 (q ++ [t] ++ [u]) = none := fun u => by
       by_cases hu : u ≤ 1000
       · exact kidsN_zero hz u hu
       · cases hh : N1 (q ++ [t] ++ [u]) with
         | none => rfl
         | some a => exact absurd (hd.low (q ++ [t]) u (by rw [hh]; simp)) hu
     obtain ⟨q1, q2, q3⟩ := hd.dropNode q t mb n' qn hm nn hv hk0 hg hn' hv2
     have hup := h'.up
     refine ⟨q1, (hup.only.drewN 1).trans q2 (fun _ _ h => h), fun p => ?_, fun p a arr2 ty2 hp ha => ?_⟩
     · by_cases e : p = q ++ [t]
       · right
         rw [if_pos e, e]
         refine ⟨rfl, List.prefix_append _ _, fun e' => ?_⟩
         have := congrArg List.length e'
         simp at this
       · rw [if_neg e]; exact hup.less p
     · obtain ⟨arr3, r1, r2, r3⟩ := hup.out p a arr2 ty2 hp ha
       by_cases hp1 : N1 p = some a
       · obtain ⟨arr4, s1, s2, s3⟩ := q3 p a arr3 ty2 hp1 r1
         exact ⟨arr4, s1, by omega, fun j hj => (s3 j hj).trans (r3 j hj)⟩
       · have hne : a.1 ≠ mb := fun e => by
           obtain ⟨es, cl, ho⟩ := hv1.obj
           rw [e, ho] at r1
           cases r1
         exact ⟨arr3, by rw [hg.block a.1 (lt_blk (show w1.drew.heap[a.1]? = _ from r1)) (fun e => hne (by injection e))]; exact r1, r2, r3⟩
set_option maxRecDepth 100000 in
set_option maxHeartbeats 2000000 in
theorem treedel_any (F : Nat → Prop) (M : List Nat → Option Nat) (r : List Nat) : ∀ (N : List Nat → Option (Nat × Nat)) (V : List Nat → Option Nat) (q : List Nat) (b off : Nat) (vp : Value) (w : World), TreeI w F N M V → N q = some (b, off) → TokT w vp r → (∀ t ∈ r, t ≤ 1000) →
   (∀ k cur fr, F k → w.heap[k]? ≠ some (.cells cur 3 fr)) → r.length ≤ 1000 →
   Calls Try.prog 63 #[.pointer (some ⟨b, off, none⟩), vp] w fun e w' =>
     e = .returned (.tuple #[]) ∧ ∃ N', TreeLess w w' F N N' M (fun p => if p = q ++ r then none else V p) q := by
 induction r with
 | nil =>
   intro N V q b off vp w h hq hT _ _ _
   obtain ⟨ap, cp, rfl, hp1, hp2⟩ := hT.slice
   unfold maxLen at hp2
   obtain ⟨arr, ty, n0, n1, n2, n3⟩ := h.node q _ hq
   simp only [] at n0 n1 n2 n3
   have c1 : w.cell? ⟨b, off + 1, none⟩ = some (blkV (V q)) := by rw [cell_blk n0]; exact n2
   have c2 : w.cell? ⟨b, off + 2, none⟩ = some (.bool (V q).isSome) := by rw [cell_blk n0]; exact n3
   have f1 := frozen_blk n0 (off + 1)
   have f2 := frozen_blk n0 (off + 2)
   obtain ⟨q1, q2, q3⟩ := h.setV q b off none hq
   have H1 := hide q1
   have H2 := hide q2
   have H3 := hide q3
   clear q1 q2 q3
   go_enter Try.func63, Try.ntmps63
   go_wp2
   refine bodyPost_ret (v := .tuple #[]) (by simp [results, Try.results63]) rfl ?_
   rw [List.append_nil]
   exact ⟨rfl, N, H1.out, H2.out, fun p => .inl rfl, H3.out⟩
 | cons t r ih =>
   intro N V q b off vp w h hq hT hb hFi hl
   obtain ⟨ap, cp, rfl, hp1, hp2⟩ := hT.slice
   unfold maxLen at hp2
   simp only [List.length_cons] at hp1 hl hT ⊢
   obtain ⟨bp, op, rfl, hbp, hc⟩ : ∃ b off, ap = some ⟨b, off, none⟩ ∧ b < w.heap.size ∧ ∀ j, j < r.length + 1 → w.cell? ⟨b, off + j, none⟩ = some (.int .i64 (tkI (t :: r) j)) := by
     obtain ⟨a', c', e, _, _, h3⟩ := hT.ints
     injection e with e1 _ _
     subst e1
     exact h3 (by simp)
   have ck : w.cell? ⟨bp, op, none⟩ = some (.int .i64 t) := hc 0 (by omega)
   have hbt : ∃ cur fr, w.drew.heap[bp]? = some (.cells cur 3 fr) := by
     obtain ⟨a', c', e, _, _, h3⟩ := hT
     injection e with e1 _ _
     obtain ⟨b', off', cur, fr, ea, hb, _⟩ := h3 (by simp)
     rw [← e1] at ea
     injection ea with ea
     injection ea with ea _ _
     exact ⟨cur, fr, by rw [ea]; exact hb⟩
   have hd1 : TokT w (.slice (some ⟨bp, op + 1, none⟩) r.length (cp - 1)) r := TokT.drop1 hT
   have ht : t ≤ 1000 := hb t (by simp)
   obtain ⟨arr, ty, n0, n1, n2, n3⟩ := h.node q _ hq
   simp only [] at n0 n1 n2 n3
   have c0 : w.cell? ⟨b, off, none⟩ = some (.map (M q)) := by rw [cell_blk n0]; exact n1
   have hqn : N q ≠ none := by rw [hq]; simp
   have hdr : TreeI w.drew F N M V := h.keep (fun _ _ => rfl)
   have hlook := hdr.look q hqn t ht
   clear hc n1 n2 n3
   have j1 : ((r.length : Int) + 1 == 0) = false := by rw [beq_eq_false_iff_ne]; omega
   have j2 : ¬ ((r.length : Int) + 1 = 0) := by omega
   have j3 : (1 : Int) ≤ (r.length : Int) + 1 := by omega
   have e0 : ∀ (X : List Nat → Option Nat), (X = fun p => if p = q ++ t :: r then none else V p) → X = fun p => if p = q ++ [t] ++ r then none else V p := fun X hX => by rw [hX]; simp
   cases hn : N (q ++ [t]) with
   | none =>
     rw [hn] at hlook
     simp only [nodeV, Option.getD_none, Option.isSome_none] at hlook
     have hV : (fun p => if p = q ++ t :: r then none else V p) = V := by
       funext p
       by_cases e : p = q ++ t :: r
       · rw [if_pos e, e]
         have h1 : N (q ++ t :: r) = none := by
           have := h.none_on (q ++ [t]) r hn
           simpa using this
         cases hv : V (q ++ t :: r) with
         | none => rfl
         | some B => exact absurd h1 (h.told _ (by rw [hv]; simp))
       · rw [if_neg e]
     have HV := hide hV
     clear hn hV e0
     go_enter Try.func63, Try.ntmps63
     go_wp2
     go_region_held3 (fun w' => w'.cell? ⟨b, off, none⟩ = some (.map (M q)) ∧ w'.cell? ⟨bp, op, none⟩ = some (.int .i64 t)) (go_keep) (fail)
     go_wp2
     refine bodyPost_ret (v := .tuple #[]) (by simp [results, Try.results63]) rfl ?_
     rw [HV.out]
     exact ⟨rfl, N, h.keep (fun _ _ => rfl), (Only.refl _ _).drewN _, fun p => .inl rfl, NodeOut.refl _ _⟩
   | some a =>
     obtain ⟨x, y⟩ := a
     have hn0 : N (q ++ [t]) ≠ none := by rw [hn]; simp
     rw [hn] at hlook
     simp only [nodeV, Option.getD_some, Option.isSome_some] at hlook
     have Hn := hide hn
     clear hn
     have hqt := hn0
     have Hih := hide ih
     have Hhd := hide hdr
     clear hdr ih
     have hcp : cp = 1 ∧ r = [] ∨ 2 ≤ cp := by
       by_cases e : 2 ≤ cp
       · exact .inr e
       · refine .inl ⟨by omega, ?_⟩
         cases r with
         | nil => rfl
         | cons u r => simp at hp1; omega
     rcases hcp with ⟨rfl, rfl⟩ | hcp
     all_goals go_enter Try.func63, Try.ntmps63
     all_goals go_wp2
     all_goals go_region_held3 (fun w' => w'.cell? ⟨b, off, none⟩ = some (.map (M q)) ∧ w'.cell? ⟨bp, op, none⟩ = some (.int .i64 t)) (go_keep) (fail)
     all_goals go_wp2_with fail
     · refine (Hih.out N V (q ++ [t]) x y _ w.drew Hhd.out Hn.out (show TokT _ _ [] from ⟨_, 0, rfl, by simp, by simp [maxLen], fun h => absurd h (by simp)⟩) (by simp) (by exact hFi) (by simp)).mono ?_
       rintro e W1 ⟨rfl, N1, hless⟩
       have hre : (fun p => if p = q ++ [t] ++ [] then none else V p) = fun p => if p = q ++ t :: [] then none else V p := by funext p; simp
       rw [hre] at hless
       clear hre
       generalize hV1 : (fun p => if p = q ++ t :: [] then none else V p) = V1 at hless
       have HV1 := hide hV1
       clear hV1
       have hD := hless.delAt hq Hn.out (show w.drew.cell? ⟨bp, op, none⟩ = some (.int .i64 t) from ck) (hless.only.keep hFi) hbt ht
       have HL := hide hless
       clear hless Hih Hhd hlook c0 ck
       obtain ⟨d1, d2, d3, d4, d5, d6, d7, d8⟩ := hD
       have Hd8 := hide d8
       clear d8 d1 d2
       cases hv : V1 (q ++ [t]) with
       | some B =>
         rw [hv] at d4
         simp only [Option.isSome_some] at d4
         go_wp2
         refine bodyPost_end (v := .tuple #[]) (by simp [results, Try.results63]) rfl ⟨rfl, N1, by rw [HV1.out]; exact HL.out.up.undrew⟩
       | none =>
         rw [hv] at d4
         simp only [Option.isSome_none] at d4
         by_cases hz : kidsN N1 (q ++ [t]) = 0
         · obtain ⟨mb, w2, N2, e1, e2, k1, k2, e3⟩ := Hd8.out hv hz
           rw [hz] at d7
           rw [e1] at d3
           have He3 := hide e3
           have d3' : W1.drew.cell? ⟨b, off, none⟩ = some (.map (some mb)) := d3
           have d6' : W1.drew.cell? ⟨bp, op, none⟩ = some (.int .i64 t) := d6
           clear e3 Hd8 hz hv e1
           go_wp2
           go_region_held3 (fun w' => w'.cell? ⟨b, off, none⟩ = some (.map (some mb)) ∧ w'.cell? ⟨bp, op, none⟩ = some (.int .i64 t)) (go_keep) (fail)
           go_wp2
           refine bodyPost_end (v := .tuple #[]) (by simp [results, Try.results63]) rfl ⟨rfl, N2, by rw [HV1.out]; exact (He3.out _ _ _ HL.out).undrew⟩
         · have hz2 : ((kidsN N1 (q ++ [t]) : Int) == 0) = false := by rw [beq_eq_false_iff_ne]; omega
           have hz3 : ¬ ((kidsN N1 (q ++ [t]) : Int) = 0) := by omega
           have hz4 : decide (kidsN N1 (q ++ [t]) = 0) = false := by simpa using hz
           clear Hd8 hv
           go_wp2
           refine bodyPost_end (v := .tuple #[]) (by simp [results, Try.results63]) rfl ⟨rfl, N1, by rw [HV1.out]; exact HL.out.up.undrew⟩
     · refine (Hih.out N V (q ++ [t]) x y _ w.drew Hhd.out Hn.out hd1 (fun u hu => hb u (by simp [hu])) (by exact hFi) (by omega)).mono ?_
       rintro e W1 ⟨rfl, N1, hless⟩
       have hre : (fun p => if p = q ++ [t] ++ r then none else V p) = fun p => if p = q ++ t :: r then none else V p := by funext p; simp
       rw [hre] at hless
       clear hre
       generalize hV1 : (fun p => if p = q ++ t :: r then none else V p) = V1 at hless
       have HV1 := hide hV1
       clear hV1
       have hD := hless.delAt hq Hn.out (show w.drew.cell? ⟨bp, op, none⟩ = some (.int .i64 t) from ck) (hless.only.keep hFi) hbt ht
       have HL := hide hless
       clear hless Hih Hhd hlook c0 ck
       obtain ⟨d1, d2, d3, d4, d5, d6, d7, d8⟩ := hD
       have Hd8 := hide d8
       clear d8 d1 d2
       cases hv : V1 (q ++ [t]) with
       | some B =>
         rw [hv] at d4
         simp only [Option.isSome_some] at d4
         go_wp2
         refine bodyPost_end (v := .tuple #[]) (by simp [results, Try.results63]) rfl ⟨rfl, N1, by rw [HV1.out]; exact HL.out.up.undrew⟩
       | none =>
         rw [hv] at d4
         simp only [Option.isSome_none] at d4
         by_cases hz : kidsN N1 (q ++ [t]) = 0
         · obtain ⟨mb, w2, N2, e1, e2, k1, k2, e3⟩ := Hd8.out hv hz
           rw [hz] at d7
           rw [e1] at d3
           have He3 := hide e3
           have d3' : W1.drew.cell? ⟨b, off, none⟩ = some (.map (some mb)) := d3
           have d6' : W1.drew.cell? ⟨bp, op, none⟩ = some (.int .i64 t) := d6
           clear e3 Hd8 hz hv e1
           go_wp2
           go_region_held3 (fun w' => w'.cell? ⟨b, off, none⟩ = some (.map (some mb)) ∧ w'.cell? ⟨bp, op, none⟩ = some (.int .i64 t)) (go_keep) (fail)
           go_wp2
           refine bodyPost_end (v := .tuple #[]) (by simp [results, Try.results63]) rfl ⟨rfl, N2, by rw [HV1.out]; exact (He3.out _ _ _ HL.out).undrew⟩
         · have hz2 : ((kidsN N1 (q ++ [t]) : Int) == 0) = false := by rw [beq_eq_false_iff_ne]; omega
           have hz3 : ¬ ((kidsN N1 (q ++ [t]) : Int) = 0) := by omega
           have hz4 : decide (kidsN N1 (q ++ [t]) = 0) = false := by simpa using hz
           clear Hd8 hv
           go_wp2
           refine bodyPost_end (v := .tuple #[]) (by simp [results, Try.results63]) rfl ⟨rfl, N1, by rw [HV1.out]; exact HL.out.up.undrew⟩
end Go.Proofs.Ytlmflighkkgikaa
