import Derived.Test.YtlmflighkkgikaaP37

namespace Go.Proofs.Ytlmflighkkgikaa
open Go.RowKit
attribute [local go_sem ↓] Go.wp_at_zero Go.wp_at_succ
def HFreed (F ok : Nat → Prop) (w : World) (g : Parts) (c : Cfg) (L1 L2 : List (Int × Key)) (il : List (List Nat)) (k0 : Key) (e : Ending) (w' : World) : Prop :=
 e = .returned (.int .i64 0) ∧ Moves (fun k => F k ∨ k = g.SM) w w' ∧ HoardI (grow F w) ok w' g c (L1 ++ L2) (il ++ leftOf c.slots ((L1 ++ L2).map (·.2)) k0)
set_option maxRecDepth 100000 in
set_option maxHeartbeats 1000000 in
theorem hfree_some (F ok : Nat → Prop) (g : Parts) (c : Cfg) (hc : c.ok) (L1 L2 : List (Int × Key)) (il : List (List Nat)) (id : Int) (k0 : Key) (w : World) (h : HoardI F ok w g c (L1 ++ (id, k0) :: L2) il) (hid : -9223372036854775808 ≤ id ∧ id ≤ 9223372036854775807) (hk : assoc (L1 ++ (id, k0) :: L2) id = some k0) :
   Calls Try.prog 19 #[.pointer (some ⟨g.X, 0, none⟩), .int .i64 id] w fun e w' => HFreed F ok w g c L1 L2 il k0 e w' := by
 obtain ⟨x0, x2, x5, x7, x8, x13, hXl⟩ := h.cells
 obtain ⟨B, free, hS, hM⟩ := h.ex
 have hm : (id, k0) ∈ L1 ++ (id, k0) :: L2 := by simp
 have hne := h.ne _ hm
 obtain ⟨b, hb⟩ := some_of_ne (hS.mem (mem_map_snd hm) hne)
 have hlook : (Instr.lookup 71 (.map (some g.SM)) (.int .i64 id) true).run Try.prog w = .ok (.tuple #[.pointer (some ⟨b, 0, none⟩), .bool true]) w := by
   have := hM.look (t := 71) Try.underlying3 Try.underlying71 (Try.zero_ptr w) id (int_wf id hid.1 hid.2)
   rw [hk] at this
   simp only [Option.map_some, hb, Option.getD_some, Option.isSome_some] at this
   exact this
 have hperm : ((L1 ++ (id, k0) :: L2).map (·.2)).Perm (k0 :: (L1 ++ L2).map (·.2)) := by
   rw [List.map_append, List.map_append, List.map_cons]
   exact List.perm_middle
 have hlv := leave_any F ok g c hc ((L1 ++ L2).map (·.2)) il B free k0 w (hS.perm hc hperm)
 rw [hb] at hlv
 unfold blkV at hlv
 have hids := h.ids
 rw [List.map_append, List.map_cons] at hids
 have hno : ∀ x ∈ L1 ++ L2, x.1 ≠ id := fun x hx e => by
   rw [List.nodup_append] at hids
   obtain ⟨n1, n2, n3⟩ := hids
   rcases List.mem_append.1 hx with hx | hx
   · exact n3 x.1 (List.mem_map.2 ⟨x, hx, rfl⟩) id (by simp) e
   · exact (List.nodup_cons.1 n2).1 (List.mem_map.2 ⟨x, hx, e⟩)
 have Hno := hide hno
 have Hlv := hide hlv
 have Hh := hide h
 have HM := hide hM
 have Hk := hide hk
 have Hids := hide hids
 clear hlv h hM hS hk hm hperm hno hids
 go_enter Try.func19, Try.ntmps19
 go_wp2_with fail
 refine Hlv.out.mono ?_
 rintro e w1 ⟨rfl, B1, free1, hS1, hM1, hsub1⟩
 have hSM1 : w1.heap[g.SM]? = w.heap[g.SM]? := hM1.only.block g.SM Hh.out.sm.2 Hh.out.sm.1
 have hmap1 := HM.out.keep hSM1
 have hl1 : (L1 ++ (id, k0) :: L2).length = (L1 ++ L2).length + 1 := by simp; omega
 rw [hl1] at hmap1
 obtain ⟨w2, hdel, hmv, hg2, hs2⟩ := hmap1.drop Try.underlying3 (t := 71) Try.underlying71 0 id (int_wf id hid.1 hid.2) (by rw [Hk.out]; simp)
 have hdel' : ∀ ty, (Builtin.delete_ #[71, 3] ty #[.map (some g.SM), .int .i64 id]).run Try.prog w1 = .ok (.tuple #[]) w2 := fun ty => hdel
 obtain ⟨arr1, ax0, ax8⟩ := store_x13 hS1
 have z13 : w1.cell? ⟨g.X, 13, none⟩ = some (.map (some g.SM)) := by rw [cell_blk ax0]; exact ax8
 have HS1 := hide hS1
 have Hmv := hide hmv
 have Hg2 := hide hg2
 have Hsub1 := hide hsub1
 clear hS1 hmv hg2 Hlv ax0 ax8 hSM1 hdel hsub1 hl1
 go_wp2
 go_ret
 refine ⟨rfl, ?_, ?_⟩
 · refine ⟨(hM1.only.mono (fun k _ hk => .inl hk)).grown Hg2.out (fun x hx _ => .inr (by injection hx with hx; exact hx.symm)), fun e he => (hM1.kept e he).trans (fun x cur fr hx => ?_)⟩
   rw [Hg2.out.block x (lt_blk hx) (fun e' => by
     injection e' with e'
     obtain ⟨es, cl, ho⟩ := hmap1.obj
     rw [← e', hx] at ho
     cases ho)]
   exact hx
 · have hnS : ∀ k, grow F w k → k ≠ g.SM := fun k hk e => not_grow_sm Hh.out.sm (by rw [← e]; exact hk)
   have hS2 := HS1.out.other_map hmap1 Hg2.out hnS
   have hfew := Hh.out.few
   simp only [List.length_append, List.length_cons] at hfew
   refine ⟨⟨B1, free1, hS2, ?_⟩, ?_, fun x hx => ?_, by simp; omega, not_grow_sm Hh.out.sm, by have := Hh.out.sm.2; have := hM1.size; omega⟩
   · have e2 : (fun y => if y = id then none else (assoc (L1 ++ (id, k0) :: L2) y).map fun k => blkV (B k)) = fun y => (assoc (L1 ++ L2) y).map fun k => blkV (B1 k) := by
       funext y
       by_cases e : y = id
       · rw [if_pos e, e, assoc_none.2 Hno.out]; rfl
       · rw [if_neg e, assoc_append, assoc_cons, if_neg (fun e' => e e'.symm), ← assoc_append]
         cases hy : assoc (L1 ++ L2) y with
         | none => rfl
         | some k =>
           obtain ⟨M1, M2, eL, _⟩ := assoc_split hy
           have hm : (y, k) ∈ L1 ++ L2 := by rw [eL]; simp
           have hm' : (y, k) ∈ L1 ++ (id, k0) :: L2 := by
             rcases List.mem_append.1 hm with q | q <;> simp [q]
           show some (blkV (B k)) = some (blkV (B1 k))
           rw [Hsub1.out k (HS1.out.mem (mem_map_snd hm) (Hh.out.ne _ hm'))]
     have := Hmv.out
     rw [e2] at this
     exact this
   · have := Hids.out
     rw [List.nodup_append] at this
     obtain ⟨n1, n2, n3⟩ := this
     rw [List.map_append, List.nodup_append]
     exact ⟨n1, (List.nodup_cons.1 n2).2, fun a ha b hb => n3 a ha b (by simp [hb])⟩
   · refine Hh.out.ne x ?_
     rcases List.mem_append.1 hx with q | q <;> simp [q]
theorem hevict_any (F ok : Nat → Prop) (g : Parts) (c : Cfg) (hc : c.ok) (L : List (Int × Key)) (il : List (List Nat)) (n : Int) (w : World) (h : HoardI F ok w g c L il) :
   Calls Try.prog 27 #[.pointer (some ⟨g.X, 0, none⟩), .int .i64 n] w fun e w' => e = .returned (.int .i64 (evN n il)) ∧ Moves F w w' ∧ HoardI (grow F w) ok w' g c L (il.drop (evN n il)) := by
 obtain ⟨B, free, hS, hM⟩ := h.ex
 refine (evict_any F ok g c hc (L.map (·.2)) il B free n w hS).mono ?_
 rintro e w' ⟨rfl, B', free', hS', hM', hsub⟩
 refine ⟨rfl, hM', ⟨B', free', hS', ?_⟩, h.ids, h.ne, h.few, not_grow_sm h.sm, Nat.lt_of_lt_of_le h.sm.2 hM'.size⟩
 have e2 : (fun y => (assoc L y).map fun k => blkV (B k)) = fun y => (assoc L y).map fun k => blkV (B' k) := by
   funext y
   cases hy : assoc L y with
   | none => rfl
   | some k =>
     obtain ⟨L1, L2, eL, _⟩ := assoc_split hy
     have hm : (y, k) ∈ L := by rw [eL]; simp
     show some (blkV (B k)) = some (blkV (B' k))
     rw [hsub k (hS'.mem (mem_map_snd hm) (h.ne _ hm))]
 rw [← e2]
 exact hM.keep (hM'.only.block g.SM h.sm.2 h.sm.1)
set_option maxRecDepth 100000 in
set_option maxHeartbeats 1000000 in
theorem hstats_any (F ok : Nat → Prop) (g : Parts) (c : Cfg) (hc : c.ok) (L : List (Int × Key)) (il : List (List Nat)) (w : World) (h : HoardI F ok w g c L il) :
   Calls Try.prog 18 #[.pointer (some ⟨g.X, 0, none⟩)] w fun e w' => e = .returned (.agg #[.int .i64 (freeS c (L.map (·.2)) il), .int .i64 il.length, .int .i64 (nUsed c.slots (L.map (·.2)))]) ∧ Below w.heap.size w w' := by
 obtain ⟨x0, x2, x5, x7, x8, x13, hXl⟩ := h.cells
 obtain ⟨B, free, hS, hM⟩ := h.ex
 obtain ⟨hil, hfl⟩ := hS.ilen hc
 have hfr := hS.freeS_eq
 have hcnt := hS.count
 have hnu : nUsed c.slots (L.map (·.2)) ≤ 32 := by have := hc.blocks.2; omega
 obtain ⟨nu, enu⟩ : ∃ nu, nu = nUsed c.slots (L.map (·.2)) := ⟨_, rfl⟩
 rw [← hfr, ← enu]
 rw [← enu] at hcnt hnu
 obtain ⟨bl1, bl2⟩ := hc.blocks
 have hpf : ∀ W, Below w.heap.size w W → Calls Try.prog 37 #[.pointer (some ⟨g.PL, 0, none⟩)] W fun e w' => e = .returned (.int .i64 free.length) ∧ w' = W := fun W hb => by
   obtain ⟨vI, vF, N, Mm, hl⟩ := (hS.below hb).low
   exact poolfree_any g.PL vF free W hl.pool
 have hli : ∀ W, Below w.heap.size w W → Calls Try.prog 38 #[.pointer (some ⟨g.X, 12, none⟩)] W fun e w' => e = .returned (.int .i64 il.length) ∧ w' = W := fun W hb => by
   obtain ⟨vI, vF, N, Mm, hl⟩ := (hS.below hb).low
   obtain ⟨arr, o0, o1, o2, o3, o4, o5, o6, o7, o8⟩ := hl.obj
   have := listlen_any g.X 12 vI (ilB B il) W (by rw [cell_blk o0]; exact o7) hl.list
   rw [show (ilB B il).length = il.length by unfold ilB; simp] at this
   exact this
 have Hpf := hide hpf
 have Hli := hide hli
 clear hpf hli hS hM h hfr enu
 obtain ⟨W0, hW0⟩ : ∃ W0, W0 = w.alloc (.cells #[.int .i64 0, .int .i64 0, .int .i64 0] 40) := ⟨_, rfl⟩
 have hB0 : Below w.heap.size w W0 := by rw [hW0]; exact (Below.refl _ _).alloc (Nat.le_refl _) _
 have hn0 : W0.heap[w.heap.size]? = some (.cells #[.int .i64 0, .int .i64 0, .int .i64 0] 40 (0, 0)) := by rw [hW0]; exact alloc_new _ _
 have hsz0 : W0.heap.size = w.heap.size + 1 := by rw [hW0]; simp
 have y8 := (hB0.cell (p := ⟨g.X, 8, none⟩) hXl).trans x8
 have y0 := (hB0.cell (p := ⟨g.X, 0, none⟩) hXl).trans x0
 have hXl0 : g.X < W0.heap.size := by omega
 have HW0 := hide hW0
 clear hW0
 go_enter Try.func18, Try.ntmps18
 go_wp2_with fail
 rw [← HW0.out]
 go_region_with (first
   | (go_at_call 37; refine Calls_use (Hpf.out _ (by first | exact hB0.drew | exact (hB0.alloc hB0.size _).drew)) ?_)
   | (go_at_call 38; refine Calls_use (Hli.out _ (by first | exact hB0.drew | exact (hB0.alloc hB0.size _).drew)) ?_))
 all_goals
   obtain ⟨W1, hW1⟩ : ∃ W1, W1 = (W0.alloc (.cells #[.int .i64 free.length, .int .i64 il.length, .int .i64 0] 40)).drew := ⟨_, rfl⟩
   rw [← hW1]
   have hb1 : Below W0.heap.size W0 W1 := by rw [hW1]; exact ((Below.refl _ _).alloc (Nat.le_refl _) _).drew
   have hn1 : W1.heap[w.heap.size + 1]? = some (.cells #[.int .i64 free.length, .int .i64 il.length, .int .i64 0] 40 (0, 0)) := by rw [hW1, ← hsz0]; exact alloc_new W0 _
   have hr1 := (hb1.block _ (lt_blk hn0)).trans hn0
   have hB1 := hB0.trans (hb1.mono hB0.size)
   have q0 : W1.cell? ⟨w.heap.size + 1, 0, none⟩ = some (.int .i64 free.length) := by rw [cell_blk hn1]; rfl
   have q1 : W1.cell? ⟨w.heap.size + 1, 1, none⟩ = some (.int .i64 il.length) := by rw [cell_blk hn1]; rfl
   have q2 : W1.cell? ⟨w.heap.size + 1, 2, none⟩ = some (.int .i64 0) := by rw [cell_blk hn1]; rfl
   have g2 := frozen_blk hn1 2
   have z0 := (hB1.cell (p := ⟨g.X, 0, none⟩) hXl).trans x0
   have hwa : IntKind.i64.wrap ((c.blocks : Int) - free.length) = (c.blocks : Int) - free.length := wrap_in (by omega) (by omega)
   have hwb : IntKind.i64.wrap ((c.blocks : Int) - free.length - il.length) = (nu : Int) := by rw [wrap_in (by omega) (by omega)]; omega
   have hne1 : g.X ≠ w.heap.size + 1 := by omega
   have hs2 : (W1.setCell ⟨w.heap.size + 1, 2, none⟩ (.int .i64 nu)).drew.heap[w.heap.size + 1]? = some (.cells #[.int .i64 free.length, .int .i64 il.length, .int .i64 nu] 40 (0, 0)) := by
     show (W1.setCell ⟨w.heap.size + 1, 2, none⟩ (.int .i64 nu)).heap[w.heap.size + 1]? = _
     rw [setCell_blk hn1]; rfl
   have kq0 : (W1.setCell ⟨w.heap.size + 1, 2, none⟩ (.int .i64 nu)).drew.cell? ⟨w.heap.size + 1, 0, none⟩ = some (.int .i64 free.length) := by rw [cell_blk hs2]; rfl
   have kq1 : (W1.setCell ⟨w.heap.size + 1, 2, none⟩ (.int .i64 nu)).drew.cell? ⟨w.heap.size + 1, 1, none⟩ = some (.int .i64 il.length) := by rw [cell_blk hs2]; rfl
   have kqX : (W1.setCell ⟨w.heap.size + 1, 2, none⟩ (.int .i64 nu)).drew.cell? ⟨g.X, 0, none⟩ = some (.int .i64 c.blocks) := by
     show (W1.setCell ⟨w.heap.size + 1, 2, none⟩ (.int .i64 nu)).cell? ⟨g.X, 0, none⟩ = _
     rw [World.cell?_of_block (setCell_far W1 _ 2 g.X _ hne1)]; exact z0
   clear hW1 hb1
   go_wp2_with fail
   go_region_held3 (fun w' => w'.cell? ⟨w.heap.size + 1, 0, none⟩ = some (.int .i64 free.length) ∧ w'.cell? ⟨w.heap.size + 1, 1, none⟩ = some (.int .i64 il.length) ∧ w'.cell? ⟨g.X, 0, none⟩ = some (.int .i64 c.blocks)) (first | (exact ⟨kq0, kq1, kqX⟩) | go_keep) (fail)
   obtain ⟨W2, hW2⟩ : ∃ W2, W2 = (W1.setCell ⟨w.heap.size + 1, 2, none⟩ (.int .i64 nu)).drew := ⟨_, rfl⟩
   rw [← hW2]
   have hn2 : W2.heap[w.heap.size + 1]? = some (.cells #[.int .i64 free.length, .int .i64 il.length, .int .i64 nu] 40 (0, 0)) := by
     rw [hW2]; exact hs2
   have hr2 : W2.heap[w.heap.size]? = some (.cells #[.int .i64 0, .int .i64 0, .int .i64 0] 40 (0, 0)) := by
     rw [hW2]
     show (W1.setCell ⟨w.heap.size + 1, 2, none⟩ (.int .i64 nu)).heap[w.heap.size]? = _
     rw [setCell_far _ _ _ _ _ (by omega)]; exact hr1
   have hB2 : Below w.heap.size w W2 := by rw [hW2]; exact (hB1.setCell (by simp) _).drew
   have a0 : W2.cell? ⟨w.heap.size + 1, 0, none⟩ = some (.int .i64 free.length) := by rw [cell_blk hn2]; rfl
   have a1 : W2.cell? ⟨w.heap.size + 1, 1, none⟩ = some (.int .i64 il.length) := by rw [cell_blk hn2]; rfl
   have a2 : W2.cell? ⟨w.heap.size + 1, 2, none⟩ = some (.int .i64 nu) := by rw [cell_blk hn2]; rfl
   have b0 : W2.cell? ⟨w.heap.size, 0, none⟩ = some (.int .i64 0) := by rw [cell_blk hr2]; rfl
   have b1 : W2.cell? ⟨w.heap.size, 1, none⟩ = some (.int .i64 0) := by rw [cell_blk hr2]; rfl
   have b2 : W2.cell? ⟨w.heap.size, 2, none⟩ = some (.int .i64 0) := by rw [cell_blk hr2]; rfl
   have fb0 := frozen_blk hr2 0
   have fb1 := frozen_blk hr2 1
   have fb2 := frozen_blk hr2 2
   clear hW2 q0 q1 q2 g2 z0 kq0 kq1 kqX hs2
   go_wp2
   refine bodyPost_ret (v := .agg #[.int .i64 free.length, .int .i64 il.length, .int .i64 nu]) ?_ rfl ⟨rfl, ((hB2.setCell (Nat.le_refl _) _).setCell (Nat.le_refl _) _).setCell (Nat.le_refl _) _⟩
   simp [results, Try.results18, go_sem, b0, b1, b2]
end Go.Proofs.Ytlmflighkkgikaa
