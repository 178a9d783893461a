import Derived.Test.YtlmflighkkgikaaP45
import Derived.Test.YtlmflighkkgikaaP47

namespace Go.Proofs.Ytlmflighkkgikaa
open Go.RowKit
attribute [local go_sem ↓] Go.wp_at_zero Go.wp_at_succ
def iv (l : List Int) : List Value := l.map fun x => .int .i64 x
theorem iv_app (a b : List Int) : iv (a ++ b) = iv a ++ iv b := by unfold iv; simp
theorem iv_range (n : Nat) (f : Nat → Int) : iv ((List.range n).map f) = (List.range n).map fun i => .int .i64 (f i) := by unfold iv; rw [List.map_map]; rfl
theorem ints_of_iv {w : World} {base : Nat} {v : Value} {l : List Int} (h : w.ownsRow base 3 1 v l.length (iv l)) : IntsT w v l.length (fun j => l.getD j 0) := by
 have e : iv l = (List.range l.length).map fun j => .int .i64 (l.getD j 0) := by
   unfold iv
   refine List.ext_getElem? (fun i => ?_)
   rw [List.getElem?_map, List.getElem?_map]
   by_cases hi : i < l.length
   · rw [List.getElem?_range hi, List.getElem?_eq_getElem hi]
     simp [List.getD_eq_getElem?_getD, List.getElem?_eq_getElem hi]
   · rw [List.getElem?_eq_none (by omega), List.getElem?_eq_none (by simp; omega)]
     rfl
 rw [e] at h
 exact IntsT.of_owns h
theorem IntsT.src {w : World} {v : Value} {n : Nat} {g : Nat → Int} (h : IntsT w v n g) (hn : 0 < n) : ∃ b off cap, v = .slice (some ⟨b, off, none⟩) n cap ∧ b < w.heap.size ∧ ∀ j u, ((List.range n).map fun i => Value.int .i64 (g i))[j]? = some u → w.cell? ((⟨b, off, none⟩ : Addr).add j) = some u := by
 obtain ⟨a, cap, rfl, _, _, h3⟩ := h
 obtain ⟨b, off, cur, fr, rfl, hb, hc⟩ := h3 hn
 refine ⟨b, off, cap, rfl, lt_blk hb, fun j u hj => ?_⟩
 rw [List.getElem?_map] at hj
 by_cases hl : j < n
 · rw [List.getElem?_range hl] at hj
   injection hj with hj
   subst hj
   rw [addr_add, cell_blk hb]
   exact hc j hl
 · rw [List.getElem?_eq_none (by simp; omega)] at hj
   cases hj
end Go.Proofs.Ytlmflighkkgikaa
namespace Go.Proofs.Ytlmflighkkgikaa
open Go.ChangeShapes Go.WideShapes Go.ChangeAt Go.RowKit Go.Deep
section
variable {H : Type} {enc : TypeId × Value → H}
end
end Go.Proofs.Ytlmflighkkgikaa
