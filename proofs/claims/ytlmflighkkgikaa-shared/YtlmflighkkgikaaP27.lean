import Derived.Test.YtlmflighkkgikaaP26

namespace Go.Proofs.Ytlmflighkkgikaa
open Go.RowKit
attribute [local go_sem ↓] Go.wp_at_zero Go.wp_at_succ
structure PoolI (w : World) (PL : Nat) (vF : Value) (free : List Nat) : Prop where
 obj : w.heap[PL]? = some (.cells #[vF] 115 (0, 0))
 row : PtrsI w vF free
 blank : ∀ b ∈ free, w.heap[b]? = some (.cells #[.slice none 0 0, .pointer none, .int .i64 0] 87 (0, 0))
 nodup : free.Nodup
theorem poolfree_any (PL : Nat) (vF : Value) (free : List Nat) (w : World) (h : PoolI w PL vF free) :
   Calls Try.prog 37 #[.pointer (some ⟨PL, 0, none⟩)] w fun e w' => e = .returned (.int .i64 free.length) ∧ w' = w := by
 obtain ⟨a, cap, rfl, h1, h2, _⟩ := ptrs_read h.row
 have c0 : w.cell? ⟨PL, 0, none⟩ = some (.slice a free.length cap) := by rw [cell_blk h.obj]; rfl
 go_enter Try.func37, Try.ntmps37
 go_wp2
 go_ret
 exact ⟨rfl, rfl⟩
set_option maxRecDepth 100000 in
set_option maxHeartbeats 1000000 in
theorem pooltake_any (PL b : Nat) (vF : Value) (free : List Nat) (w : World) (h : PoolI w PL vF (free ++ [b])) (hl : free.length ≤ 1000) :
   Calls Try.prog 81 #[.pointer (some ⟨PL, 0, none⟩)] w fun e w' =>
     e = .returned (ptrV b) ∧ ∃ vF', PoolI w' PL vF' free ∧ Only (fun k => k = PL ∨ vF.ownBlock = some k) w w' ∧ w'.heap.size = w.heap.size ∧ vF'.ownBlock = vF.ownBlock := by
 obtain ⟨a, cap, rfl, h1, h2, h3⟩ := ptrs_read h.row
 obtain ⟨g, rfl, hg, h4⟩ := h3 (by simp)
 have c1 := h4 free.length (by simp)
 obtain ⟨f, hrow, _, _, hf⟩ := owns_row h.row
 have hne : PL ≠ g := fun e => by
   obtain ⟨cur, q, _⟩ := hrow
   rw [← e, h.obj] at q
   injection q with q
   injection q with _ q _
   exact absurd q (by decide)
 have hlen : (free ++ [b]).length = free.length + 1 := by simp
 rw [hlen] at h1 hf
 have hobj := h.obj
 rw [hlen] at hobj
 have c0 : w.cell? ⟨PL, 0, none⟩ = some (.slice (some ⟨g, 0, none⟩) (free.length + 1) cap) := by rw [cell_blk hobj]; rfl
 have e1 : (free ++ [b])[free.length]'(by simp) = b := by simp
 rw [e1] at c1
 have f0 := frozen_blk hobj 0
 have f1 := hrow.frozen free.length
 unfold maxLen at h2
 have hnw : IntKind.i64.wrap ((free.length : Int) + 1 - 1) = free.length := by rw [wrap_in (by omega) (by omega)]; omega
 have Hf := hide hf
 have Hrow := hide hrow
 clear h3 h4 hf hrow e1
 unfold ptrV at c1 ⊢
 go_enter Try.func81, Try.ntmps81
 go_wp2
 go_ret
 have hnd := h.nodup
 rw [List.nodup_append] at hnd
 have blk : ∀ x ∈ free, ((w.setCell ⟨g, free.length, none⟩ (.pointer none)).setCell ⟨PL, 0, none⟩ (.slice (some ⟨g, 0, none⟩) free.length cap)).heap[x]? = some (.cells #[.slice none 0 0, .pointer none, .int .i64 0] 87 (0, 0)) := fun x hx => by
   have q := h.blank x (by simp [hx])
   have n1 : x ≠ PL := fun e => by
     rw [e, hobj] at q
     injection q with q
     injection q with _ q _
     exact absurd q (by decide)
   have n2 : x ≠ g := fun e => by
     obtain ⟨cur, q', _⟩ := Hrow.out
     rw [e, q'] at q
     injection q with q
     injection q with _ q _
     exact absurd q (by decide)
   rw [setCell_far _ _ _ _ _ n1, setCell_far _ _ _ _ _ n2]; exact q
 refine ⟨rfl, .slice (some ⟨g, 0, none⟩) free.length cap, ⟨?_, ?_, blk, hnd.1⟩, ((Only.refl _ _).setCell (fun _ => .inr rfl) _).setCell (fun _ => .inl rfl) _, by simp [World.setCell], rfl⟩
 · have q : (w.setCell ⟨g, free.length, none⟩ (.pointer none)).heap[PL]? = some (.cells #[.slice (some ⟨g, 0, none⟩) (free.length + 1) cap] 115 (0, 0)) := by rw [setCell_far _ _ _ _ _ hne]; exact hobj
   rw [setCell_blk q]; rfl
 · refine row_owns (f := fun j => if j = free.length then .pointer none else f j) ?_ (by omega) (by unfold maxLen; exact h2) ?_
   · obtain ⟨cur, q1, q2, q3⟩ := Hrow.out.set free.length (.pointer none)
     exact ⟨cur, by rw [setCell_far _ _ _ _ _ hne.symm]; exact q1, q2, q3⟩
   · have h5 := congrArg (fun l => l.take free.length) Hf.out
     simp only [List.map_append, ← List.map_take, List.take_range] at h5
     rw [List.take_left' (by simp)] at h5
     rw [h5, Nat.min_eq_left (by omega)]
     apply List.map_congr_left
     intro j hj
     rw [if_neg (by have := List.mem_range.1 hj; omega)]
theorem blank_set {w : World} {b : Nat} {x y z : Value} {ty : TypeId} (h : w.heap[b]? = some (.cells #[x, y, z] ty (0, 0))) (x' y' z' : Value) :
   (((w.setCell ⟨b, 0, none⟩ x').setCell ⟨b, 1, none⟩ y').setCell ⟨b, 2, none⟩ z').heap[b]? = some (.cells #[x', y', z'] ty (0, 0)) := by
 rw [setCell_blk (setCell_blk (setCell_blk h _ _) _ _) _ _]; rfl
set_option maxRecDepth 100000 in
set_option maxHeartbeats 1000000 in
theorem poolgive_any (PL b : Nat) (vF x y z : Value) (free : List Nat) (w : World) (h : PoolI w PL vF free) (hl : free.length ≤ 1000) (hb : w.heap[b]? = some (.cells #[x, y, z] 87 (0, 0))) (hnot : b ∉ free) :
   Calls Try.prog 64 #[.pointer (some ⟨PL, 0, none⟩), ptrV b] w fun e w' =>
     e = .returned (.tuple #[]) ∧ ∃ vF', PoolI w' PL vF' (free ++ [b]) ∧ Only (fun k => k = PL ∨ k = b ∨ vF.ownBlock = some k) w w' ∧ (vF'.ownBlock = vF.ownBlock ∨ ∃ g, vF'.ownBlock = some g ∧ w.heap.size ≤ g) := by
 obtain ⟨i0, hi, hz0, hz1, hz2⟩ := info_parts Try.info_ptr
 obtain ⟨a, cap, rfl, h1, h2, _⟩ := ptrs_read h.row
 unfold maxLen at h2
 have hbl := lt_blk hb
 have hPl := lt_blk h.obj
 have hbP : b ≠ PL := fun e => by
   rw [e, h.obj] at hb
   injection hb with q
   injection q with _ q _
   exact absurd q (by decide)
 have k0 : w.cell? ⟨b, 0, none⟩ = some x := by rw [cell_blk hb]; rfl
 have k1 : w.cell? ⟨b, 1, none⟩ = some y := by rw [cell_blk hb]; rfl
 have k2 : w.cell? ⟨b, 2, none⟩ = some z := by rw [cell_blk hb]; rfl
 have fr0 := frozen_blk hb 0
 have fr1 := frozen_blk hb 1
 have fr2 := frozen_blk hb 2
 have K : ∀ i o v, w.cell? ⟨b, i, none⟩ = some v → (w.alloc o).cell? ⟨b, i, none⟩ = some v := fun i o v hv => (World.cell?_alloc_past _ _ _ hbl).trans hv
 have FK : ∀ i o, w.frozen? ⟨b, i, none⟩ = false → (w.alloc o).frozen? ⟨b, i, none⟩ = false := fun i o hv => (World.frozen?_alloc_past _ _ _ hbl).trans hv
 have k0' := fun o => K 0 o _ k0
 have k1' := fun o => K 1 o _ k1
 have k2' := fun o => K 2 o _ k2
 have fr0' := fun o => FK 0 o fr0
 have fr1' := fun o => FK 1 o fr1
 have fr2' := fun o => FK 2 o fr2
 clear K FK
 obtain ⟨W0, hW0⟩ : ∃ W0, W0 = ((((w.setCell ⟨b, 0, none⟩ (.slice none 0 0)).setCell ⟨b, 1, none⟩ (.pointer none)).setCell ⟨b, 2, none⟩ (.int .i64 0)).alloc (.cells #[.slice none 0 0, .pointer none, .int .i64 0] 87)) := ⟨_, rfl⟩
 have hb0 : W0.heap[b]? = some (.cells #[.slice none 0 0, .pointer none, .int .i64 0] 87 (0, 0)) := by
   rw [hW0, alloc_old _ _ _ (by simp [World.setCell]; exact hbl)]; exact blank_set hb _ _ _
 have far : ∀ k o, w.heap[k]? = some o → k ≠ b → W0.heap[k]? = some o := fun k o hk hne => by
   rw [hW0, alloc_old _ _ _ (by simp [World.setCell]; exact lt_blk hk), setCell_far _ _ _ _ _ hne, setCell_far _ _ _ _ _ hne, setCell_far _ _ _ _ _ hne]; exact hk
 have hsz0 : W0.heap.size = w.heap.size + 1 := by rw [hW0]; simp [World.setCell]
 have hO0 : Only (fun k => k = PL ∨ k = b ∨ (Value.slice a free.length cap).ownBlock = some k) w W0 := by
   rw [hW0]; exact ((((Only.refl _ _).setCell (fun _ => .inr (.inl rfl)) _).setCell (fun _ => .inr (.inl rfl)) _).setCell (fun _ => .inr (.inl rfl)) _).alloc _
 have hP0 := far PL _ h.obj hbP.symm
 have hown0 : W0.ownsRow 0 61 1 (.slice a free.length cap) free.length (free.map ptrV) := by
   obtain ⟨hl', q | ⟨g', cap', cur, q1, r1, hg, r⟩⟩ := h.row
   · exact ⟨hl', .inl q⟩
   · refine ⟨hl', .inr ⟨g', cap', cur, q1, r1, far _ _ hg (fun e => ?_), r⟩⟩
     rw [e, hb] at hg
     injection hg with hg
     injection hg with _ hg _
     exact absurd hg (by decide)
 have p0 : W0.cell? ⟨PL, 0, none⟩ = some (.slice a free.length cap) := by rw [cell_blk hP0]; rfl
 have pf := frozen_blk hP0 0
 rw [hW0] at p0 pf
 have neP := owns_ne hown0 hP0 (by decide)
 have neb := owns_ne hown0 hb0 (by decide)
 have hPl0 := lt_blk hP0
 have hbl0 := lt_blk hb0
 have HW0 := hide hW0
 have Hfar := hide far
 clear hW0 far
 have p0' : ∀ o, (((((w.setCell ⟨b, 0, none⟩ (.slice none 0 0)).setCell ⟨b, 1, none⟩ (.pointer none)).setCell ⟨b, 2, none⟩ (.int .i64 0)).alloc (.cells #[.slice none 0 0, .pointer none, .int .i64 0] 87)).alloc o).cell? ⟨PL, 0, none⟩ = some (.slice a free.length cap) := fun o => (World.cell?_alloc_past _ _ _ (by rw [← HW0.out]; exact hPl0)).trans p0
 unfold ptrV
 go_enter Try.func64, Try.ntmps64
 go_wp2_with (at_builtin; rw [← HW0.out]; refine wpList_append_lies _ rfl _ _ _ rfl 0 61 i0 _ 1 8 Try.underlying68 hi hz0 hz1 hz2 rfl (by omega) (.slice a free.length cap) free.length _ rfl (World.ownsRow.alloc hown0 _) ⟨W0.heap.size, 0, none⟩ 1 1 [.pointer (some ⟨b, 0, none⟩)] (by simp [Act.eval, hsz0]) rfl (one_new W0 _ _) (by intro u hu; simp at hu; subst hu; rfl) (by omega) (by unfold maxLen; omega) (by omega) (by omega) (W0.heap.size + 1) (by simp) ?_; intro g cap1 w1 hown1 hgrow hat hlt1; have hP1 := (hgrow.block PL (by simp; omega) neP).trans ((alloc_old _ _ _ hPl0).trans hP0); have d0 : w1.cell? ⟨PL, 0, none⟩ = some (.slice a free.length cap) := (by rw [cell_blk hP1]; rfl); have g0 := frozen_blk hP1 0)
 refine bodyPost_end (v := .tuple #[]) (by simp [results, Try.results64]) rfl ⟨rfl, .slice (some ⟨g, 0, none⟩) (free.length + 1) cap1, ⟨?_, ?_, fun x hx => ?_, ?_⟩, ?_, ?_⟩
 · rw [setCell_blk hP1]; rfl
 · have hXg : g ≠ PL := fun e => by
     obtain ⟨_, ⟨q1, _⟩ | ⟨g', cap', cur, q1, _, hg, _⟩⟩ := hown1
     · cases q1
     · injection q1 with q1 _ _
       injection q1 with q1
       injection q1 with q1 _ _
       rw [← q1, e, hP1] at hg
       injection hg with hg
       injection hg with _ hg _
       exact absurd hg (by decide)
   unfold PtrsI
   rw [List.length_append, List.map_append]
   obtain ⟨hl', ⟨q1, _⟩ | ⟨g', cap', cur, q1, r1, hg, r⟩⟩ := hown1
   · cases q1
   · refine ⟨hl', .inr ⟨g', cap', cur, q1, r1, ?_, r⟩⟩
     injection q1 with q1 _ _
     injection q1 with q1
     injection q1 with q1 _ _
     rw [setCell_far _ _ _ _ _ (by rw [← q1]; exact hXg)]
     exact hg
 · have hx0 : W0.heap[x]? = some (.cells #[.slice none 0 0, .pointer none, .int .i64 0] 87 (0, 0)) := by
     rcases List.mem_append.1 hx with hx | hx
     · exact Hfar.out _ _ (h.blank x hx) (fun e => hnot (by rw [← e]; exact hx))
     · rw [List.mem_singleton] at hx; subst hx; exact hb0
   have n1 : x ≠ PL := fun e => by
     rw [e, hP0] at hx0
     injection hx0 with q
     injection q with _ q _
     exact absurd q (by decide)
   rw [setCell_far _ _ _ _ _ n1, hgrow.block x (by simp; have := lt_blk hx0; omega) (owns_ne hown0 hx0 (by decide)), alloc_old _ _ _ (lt_blk hx0)]
   exact hx0
 · rw [List.nodup_append]
   refine ⟨h.nodup, by simp, fun x hx y hy e => ?_⟩
   rw [List.mem_singleton] at hy
   subst hy e
   exact hnot hx
 · exact ((hO0.alloc _).grown hgrow (fun g hg _ => .inr (.inr hg))).setCell (fun _ => .inl rfl) _
 · rcases hat with hat | hat
   · left; rw [hat]; rfl
   · right; exact ⟨g, rfl, by omega⟩
end Go.Proofs.Ytlmflighkkgikaa
