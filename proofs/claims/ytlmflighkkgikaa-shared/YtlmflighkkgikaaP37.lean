import Derived.Test.YtlmflighkkgikaaP35

namespace Go.Proofs.Ytlmflighkkgikaa
open Go.RowKit
attribute [local go_sem ↓] Go.wp_at_zero Go.wp_at_succ
set_option maxRecDepth 100000 in
set_option maxHeartbeats 1000000 in
theorem htokens_some (F ok : Nat → Prop) (g : Parts) (c : Cfg) (hc : c.ok) (L : List (Int × Key)) (il : List (List Nat)) (id : Int) (k : Key) (w : World) (h : HoardI F ok w g c L il) (hid : -9223372036854775808 ≤ id ∧ id ≤ 9223372036854775807) (hk : assoc L id = some k) :
   Calls Try.prog 26 #[.pointer (some ⟨g.X, 0, none⟩), .int .i64 id] w fun e w' => ∃ r, e = .returned (.tuple #[r, .int .i64 0]) ∧ w'.ownsRow w.heap.size 3 1 r k.1.length ((List.range k.1.length).map fun j => .int .i64 (tkI k.1 j)) ∧ Below w.heap.size w w' := by
 obtain ⟨x0, x2, x5, x7, x8, x13, hXl⟩ := h.cells
 obtain ⟨B, b, U, hb, hs, _, _, _, hlook⟩ := h.seq id hid hk
 have ht := tokens_any ok c hc B U k w hs
 rw [hb] at ht
 unfold blkV at ht
 have Ht := hide ht
 clear ht hs hk h
 go_enter Try.func26, Try.ntmps26
 go_wp2_with fail
 refine Ht.out.mono ?_
 rintro e w1 ⟨r, rfl, hr, hb1⟩
 have Hr := hide hr
 clear hr Ht
 go_wp2
 go_ret2
 exact ⟨r, rfl, Hr.out, hb1⟩
theorem hfree_none (F ok : Nat → Prop) (g : Parts) (c : Cfg) (L : List (Int × Key)) (il : List (List Nat)) (id : Int) (w : World) (h : HoardI F ok w g c L il) (hid : -9223372036854775808 ≤ id ∧ id ≤ 9223372036854775807) (hno : assoc L id = none) :
   Calls Try.prog 19 #[.pointer (some ⟨g.X, 0, none⟩), .int .i64 id] w fun e w' => e = .returned (.int .i64 3) ∧ w' = w := by
 obtain ⟨x0, x2, x5, x7, x8, x13, hXl⟩ := h.cells
 have hlook := h.look_none id hid hno
 clear hno h
 go_enter Try.func19, Try.ntmps19
 go_wp2
 go_ret
 exact ⟨rfl, rfl⟩
end Go.Proofs.Ytlmflighkkgikaa
