import Derived.Deep.RegionLaw
import Derived.Deep.AppendLies
import Derived.Test.YtlmflighkkgikaaGreatP33

namespace Go.Proofs.YtlmflighkkgikaaGreat
open Go.RowKit
attribute [local go_sem ↓] Go.wp_at_zero Go.wp_at_succ
theorem reffork_none (Y d : Nat) (c : Cfg) (L : List (Int × Key)) (ok : Nat → Prop) (il : List (List Nat)) (nt : Nat) (vL vI : Value) (id other : Int) (w : World) (h : RefI ok w Y d c L il nt vL vI) (hno : assoc L id = none) :
   Calls Tryz.prog 24 #[.pointer (some ⟨Y, 0, none⟩), .int .i64 id, .int .i64 other] w fun e w' => e = .returned (.int .i64 3) ∧ w' = w := by
 have y1 : w.cell? ⟨Y, 1, none⟩ = some vL := by rw [cell_blk h.obj]; rfl
 have hf := reffind_none Y id vL L ok w y1 h.seqs (by have := h.many; omega) hno
 have Hf := hide hf
 clear hf h hno
 go_enter Tryz.func24, Tryz.ntmps24
 go_wp2_with fail
 refine Calls_use Hf.out ?_
 go_wp2
 go_ret
 exact ⟨rfl, rfl⟩
def RefForked (ok : Nat → Prop) (w : World) (Y d : Nat) (c : Cfg) (L : List (Int × Key)) (il : List (List Nat)) (nt : Nat) (vL vI : Value) (other : Int) (k : Key) (e : Ending) (w' : World) : Prop :=
 e = .returned (.int .i64 (forkS L other)) ∧ ((forkS L other ≠ 0 ∧ w' = w) ∨ (forkS L other = 0 ∧ RefTo ok w Y d c vL vI (L ++ [(other, k)]) il nt w'))
theorem RefI.mid {ok : Nat → Prop} {w : World} {Y d : Nat} {c : Cfg} {L1 L2 : List (Int × Key)} {il : List (List Nat)} {nt : Nat} {vL vI : Value} {id : Int} {k0 : Key} (h : RefI ok w Y d c (L1 ++ (id, k0) :: L2) il nt vL vI) :
   ∃ g cap vT, vL = .slice (some ⟨g, 0, none⟩) (L1 ++ (id, k0) :: L2).length cap ∧ (L1 ++ (id, k0) :: L2).length ≤ cap ∧ cap ≤ maxLen ∧ w.cell? ⟨g, L1.length * 3, none⟩ = some (.int .i64 id) ∧ w.cell? ⟨g, L1.length * 3 + 1, none⟩ = some vT ∧ w.cell? ⟨g, L1.length * 3 + 2, none⟩ = some (.int .i64 k0.2) ∧ TokT w vT k0.1 ∧ okV ok vT ∧ g < w.heap.size := by
 obtain ⟨a, cap, e, h1, h2, h3⟩ := h.seqs.cells
 obtain ⟨g, rfl, hg, hc⟩ := h3 (by simp; omega)
 obtain ⟨c0, ⟨vT, c1, hT, ho⟩, c2⟩ := hc L1.length (by simp)
 obtain ⟨r1, r2, r3⟩ := seq_mid L1 L2 (id, k0)
 rw [r1] at c0
 rw [r2] at hT
 rw [r3] at c2
 exact ⟨g, cap, vT, e, h1, h2, c0, c1, c2, hT, ho, hg⟩
set_option maxRecDepth 100000 in
set_option maxHeartbeats 4000000 in
theorem reffork_some (Y d : Nat) (c : Cfg) (L L1 L2 : List (Int × Key)) (ok : Nat → Prop) (il : List (List Nat)) (nt : Nat) (vL vI : Value) (id other : Int) (k0 : Key) (w : World) (h : RefI ok w Y d c L il nt vL vI) (eL : L = L1 ++ (id, k0) :: L2) (hno : assoc L1 id = none) :
   Calls Tryz.prog 24 #[.pointer (some ⟨Y, 0, none⟩), .int .i64 id, .int .i64 other] w fun e w' => RefForked ok w Y d c L il nt vL vI other k0 e w' := by
 obtain ⟨i1, hi', hz0', hz1', hz2'⟩ := info_parts Tryz.info_seq
 have hYl := lt_blk h.obj
 have y1 : w.cell? ⟨Y, 1, none⟩ = some vL := by rw [cell_blk h.obj]; rfl
 have hmany := h.many
 have hf := reffind_at Y id vL L1 L2 k0 ok w y1 (by rw [← eL]; exact h.seqs) (by rw [← eL]; omega) hno
 have Hf := hide hf
 have hmid : ∃ g cap vT, vL = .slice (some ⟨g, 0, none⟩) L.length cap ∧ L.length ≤ cap ∧ cap ≤ maxLen ∧ w.cell? ⟨g, L1.length * 3, none⟩ = some (.int .i64 id) ∧ w.cell? ⟨g, L1.length * 3 + 1, none⟩ = some vT ∧ w.cell? ⟨g, L1.length * 3 + 2, none⟩ = some (.int .i64 k0.2) ∧ TokT w vT k0.1 ∧ okV ok vT ∧ g < w.heap.size := by
   subst eL; exact h.mid
 obtain ⟨g, cap, vT, eV, hc1, hc2, c0, c1, c2, hT, hoT, hgl⟩ := hmid
 unfold maxLen at hc2
 have hkl : L1.length < L.length := by rw [eL]; simp
 have hmem : (id, k0) ∈ L := by rw [eL]; simp
 clear hf
 by_cases ho : assoc L other = none
 · have hf2 := reffind_none Y other vL L ok w y1 h.seqs (by omega) ho
   have Hf2 := hide hf2
   clear hf2
   by_cases h8 : 8 ≤ L.length
   · have hcode : forkS L other = 1 := by unfold forkS; rw [if_neg (by simp [ho]), if_pos h8]
     have Hcode := hide hcode
     rw [eV] at y1
     clear hcode ho eL hno h hmem
     go_enter Tryz.func24, Tryz.ntmps24
     go_wp2_with fail
     refine Calls_use Hf.out ?_
     clear Hf
     go_wp2_with fail
     refine Calls_use Hf2.out ?_
     go_wp2
     go_ret
     exact ⟨by rw [Hcode.out]; rfl, .inl ⟨by rw [Hcode.out]; simp, rfl⟩⟩
   · have hcode : forkS L other = 0 := by unfold forkS; rw [if_neg (by simp [ho]), if_neg h8]
     have Hcode := hide hcode
     obtain ⟨F, hF1, hF2⟩ := h.seqs
     have Hh := hide h
     have HF2 := hide hF2
     have HT := hide hT
     have HeV := hide eV
     have y1' : w.cell? ⟨Y, 1, none⟩ = some (.slice (some ⟨g, 0, none⟩) L.length cap) := by rw [← eV]; exact y1
     have htl : TailsOk c.slots (L ++ [(other, k0)]) nt := h.tails.of_keys (fun y hy => by
       rcases List.mem_append.1 hy with hy | hy
       · exact ⟨y, hy, rfl⟩
       · simp at hy; subst hy; exact ⟨_, hmem, rfl⟩)
     have Htl := hide htl
     have Hlen := hide (h.len _ hmem)
     have Htk := hide (h.toks _ hmem)
     have neY : some Y ≠ vL.ownBlock := fun e => by
       obtain ⟨cur, q⟩ := h.own e.symm
       rw [h.obj] at q; injection q with q; injection q with _ q _; exact absurd q (by decide)
     have neY' : some Y ≠ some g := by rw [eV] at neY; exact neY
     have hobj := h.obj
     have fy := frozen_blk hobj 1
     obtain ⟨av, cv, ev, _, _⟩ := hT.slice
     subst ev
     rw [eV] at hF1
     clear hcode ho eL hno h hmem hF2 hT y1 eV htl neY
     go_enter Tryz.func24, Tryz.ntmps24
     go_wp2_with fail
     refine Calls_use Hf.out ?_
     clear Hf
     go_wp2_with fail
     refine Calls_use Hf2.out ?_
     clear Hf2
     go_wp2_with fail
     obtain ⟨W4, hW4⟩ : ∃ W4, W4 = w.alloc (.cells #[.int .i64 id, .slice av k0.1.length cv, .int .i64 k0.2] 113) := ⟨_, rfl⟩
     have hb4 : Below w.heap.size w W4 := by rw [hW4]; exact (Below.refl _ _).alloc (Nat.le_refl _) _
     have hn4 : W4.heap[w.heap.size]? = some (.cells #[.int .i64 id, .slice av k0.1.length cv, .int .i64 k0.2] 113 (0, 0)) := by rw [hW4]; exact alloc_new _ _
     have k1 := (hb4.cell (p := ⟨Y, 1, none⟩) hYl).trans y1'
     have hobj4 := (hb4.block Y hYl).trans hobj
     have k2 := frozen_blk hobj4 1
     have hY4 := lt_blk hobj4
     have j1 : W4.cell? ⟨w.heap.size, 1, none⟩ = some (.slice av k0.1.length cv) := by rw [cell_blk hn4]; rfl
     have j2 : W4.cell? ⟨w.heap.size, 2, none⟩ = some (.int .i64 k0.2) := by rw [cell_blk hn4]; rfl
     have hB4l := lt_blk hn4
     have hrow := owns_below' hF1 hb4
     have neB : some w.heap.size ≠ some g := fun e => by injection e with e; omega
     rw [← hW4]
     clear hW4
     go_region_law ((refine step_append_lies _ (by rfl) _ _ _ (by rfl) 0 113 i1 _ 3 40 Tryz.underlying83 hi' hz0' hz1' hz2' rfl (by omega) (.slice (some ⟨g, 0, none⟩) L.length cap) L.length _ (by simp [Act.eval]) ((hrow.alloc _).drew) ⟨W4.heap.size, 0, none⟩ 1 1 [.int .i64 other, .slice av k0.1.length cv, .int .i64 k0.2] (by simp [Act.eval]) (by rfl) (three_new W4 _ _ _ _) (by intro u hu; simp at hu; rcases hu with rfl | rfl | rfl <;> rfl) (by omega) (by unfold maxLen; omega) (by omega) (by simp) (W4.heap.size + 1) (by simp) ?_; intro gg cp W5 hown5 hgrow hat hlt5; have z1 := hgrow.cell ((World.cell?_alloc_past _ _ _ hY4).trans k1) neY'; have z2 := (World.frozen?_of_block (hgrow.block Y (by simp; omega) neY')).trans ((World.frozen?_alloc_past _ _ _ hY4).trans k2)))
     all_goals go_wp2
     all_goals go_ret
     all_goals
       have hb5 : Below w.heap.size w (W4.alloc (.cells #[.int .i64 other, .slice av k0.1.length cv, .int .i64 k0.2] 113)).drew := (hb4.alloc hb4.size _).drew
       refine ⟨by rw [Hcode.out]; rfl, .inr ⟨Hcode.out, ?_⟩⟩
       have hR := Hh.out
       rw [HeV.out] at hR ⊢
       refine RefI.push (k := k0) hR HF2.out ((hrow.alloc _).drew) hb5 hgrow ?_ hown5 HT.out hoT Htl.out (by omega) Hlen.out Htk.out
       rcases hat with hat | hat
       · exact .inl hat
       · right; have := hb4.size; omega
 · obtain ⟨k2, hk2⟩ := some_of_ne ho
   obtain ⟨M1, M2, eM, hM1⟩ := assoc_split hk2
   have hcode : forkS L other = 2 := by unfold forkS; rw [if_pos ho]
   have Hcode := hide hcode
   have hf2 := reffind_at Y other vL M1 M2 k2 ok w y1 (by rw [← eM]; exact h.seqs) (by rw [← eM]; omega) hM1
   have Hf2 := hide hf2
   have hM1l : M1.length ≤ 1000 := by
     have : M1.length < L.length := by rw [eM]; simp
     omega
   clear hf2 hcode ho eL hno h hmem hk2 eM
   go_enter Tryz.func24, Tryz.ntmps24
   go_wp2_with fail
   refine Calls_use Hf.out ?_
   clear Hf
   go_wp2_with fail
   refine Calls_use Hf2.out ?_
   go_wp2
   go_ret
   exact ⟨by rw [Hcode.out]; rfl, .inl ⟨by rw [Hcode.out]; simp, rfl⟩⟩
end Go.Proofs.YtlmflighkkgikaaGreat
