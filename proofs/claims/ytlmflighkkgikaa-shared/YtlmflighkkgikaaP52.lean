import Derived.Deep.CutRange
import Derived.BigQuiet
import Derived.Test.YtlmflighkkgikaaP24
import Derived.Test.YtlmflighkkgikaaP47
import Derived.Test.YtlmflighkkgikaaP48
import Derived.Test.YtlmflighkkgikaaP50

namespace Go.Proofs.Ytlmflighkkgikaa
open Go.RowKit
attribute [local go_sem ↓] Go.wp_at_zero Go.wp_at_succ
theorem natsOf_list (l : List Int) : natsOf l.length (fun j => l.getD j 0) = l.map Int.toNat := by
 unfold natsOf
 refine List.ext_getElem? (fun i => ?_)
 rw [List.getElem?_map, List.getElem?_map]
 by_cases hi : i < l.length
 · rw [List.getElem?_range hi, List.getElem?_eq_getElem hi]
   simp [List.getD_eq_getElem?_getD, List.getElem?_eq_getElem hi]
 · rw [List.getElem?_eq_none (by simp; omega), List.getElem?_eq_none (by omega)]
   rfl
theorem natsOf_two (a b : Nat) (f g : Nat → Int) : natsOf ((List.range a).map f ++ (List.range b).map g).length (fun j => ((List.range a).map f ++ (List.range b).map g).getD j 0) = natsOf a f ++ natsOf b g := by
 rw [natsOf_list, List.map_append, List.map_map, List.map_map]
 rfl
theorem stat3_cells {w : World} {b : Nat} {a0 a1 a2 : Value} {t : TypeId} {fr : Nat × Nat} (h : w.heap[b]? = some (.cells #[a0, a1, a2] t fr)) :
   w.cell? ⟨b, 0, none⟩ = some a0 ∧ w.cell? ⟨b, 1, none⟩ = some a1 ∧ w.cell? ⟨b, 2, none⟩ = some a2 := by
 refine ⟨?_, ?_, ?_⟩ <;> (rw [cell_blk h]; rfl)
theorem src_at {w : World} {b off n cap : Nat} {g : Nat → Int} (h : IntsT w (.slice (some ⟨b, off, none⟩) n cap) n g) (hn : 0 < n) : ∀ j u, ((List.range n).map fun i => Value.int .i64 (g i))[j]? = some u → w.cell? ((⟨b, off, none⟩ : Addr).add j) = some u := by
 obtain ⟨b', off', cap', e, _, hc⟩ := h.src hn
 injection e with e1 _ _
 injection e1 with e1
 injection e1 with e1 e2 _
 subst e1 e2
 exact hc
theorem snoc_row {w : World} {base : Nat} {v : Value} {n0 x : Nat} {F0 : Nat → Int} (h : w.ownsRow base 3 1 v (n0 + 1) (((List.range n0).map fun j => .int .i64 (F0 j)) ++ [.int .i64 (x : Int)])) (vo : Nat) (hx : x < vo) (ht : ∀ j, ¬ badTok vo (F0 j)) :
   ∃ (F : Nat → Int) (b cap : Nat), v = .slice (some ⟨b, 0, none⟩) (n0 + 1) cap ∧ base ≤ b ∧ n0 + 1 ≤ cap ∧ cap ≤ maxLen ∧ IntsT w v (n0 + 1) F ∧ ∀ j, j < n0 + 1 → ¬ badTok vo (F j) := by
 have hF : w.ownsRow base 3 1 v (n0 + 1) ((List.range (n0 + 1)).map fun j => .int .i64 (if j = n0 then (x : Int) else F0 j)) := by
   have e : ((List.range (n0 + 1)).map fun j => Value.int .i64 (if j = n0 then (x : Int) else F0 j)) = ((List.range n0).map fun j => Value.int .i64 (F0 j)) ++ [.int .i64 (x : Int)] := by
     rw [List.range_succ, List.map_append]
     congr 1
     · exact List.map_congr_left (fun j hj => by rw [if_neg (by have := List.mem_range.1 hj; omega)])
     · simp
   rw [e]
   exact h
 have hI := IntsT.of_owns hF
 obtain ⟨_, ⟨_, q⟩ | ⟨g, cap, cur, q1, q0, _, q2, q3, _⟩⟩ := hF
 · omega
 · refine ⟨_, g, cap, q1, q0, q2, q3, hI, fun j _ => ?_⟩
   by_cases e : j = n0
   · simp only [if_pos e]; unfold badTok; omega
   · simp only [if_neg e]; exact ht j
end Go.Proofs.Ytlmflighkkgikaa
