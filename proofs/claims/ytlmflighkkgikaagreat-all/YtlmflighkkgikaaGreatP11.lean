import Derived.Test.YtlmflighkkgikaaGreatP10

namespace Go.Proofs.YtlmflighkkgikaaGreat
open Go.RowKit
attribute [local go_sem ↓] Go.wp_at_zero Go.wp_at_succ
def firstT (L : List (Int × Key)) (i : Nat) : Bool := decide (0 < tailAt L i) && (List.range i).all (fun k => decide (tailAt L k ≠ tailAt L i))
def manyT (L : List (Int × Key)) : Nat → Nat
 | 0 => 0
 | n + 1 => if firstT L n then manyT L n + 1 else manyT L n
def mineT (L : List (Int × Key)) (n : Nat) : Nat → Nat
 | 0 => 0
 | k + 1 => if 0 < tailAt L k ∧ tailAt L k = n then mineT L n k + 1 else mineT L n k
theorem manyT_le (L : List (Int × Key)) (n : Nat) : manyT L n ≤ n := by
 induction n with
 | zero => simp [manyT]
 | succ n ih => simp only [manyT]; split <;> omega
theorem mineT_le (L : List (Int × Key)) (m n : Nat) : mineT L m n ≤ n := by
 induction n with
 | zero => simp [mineT]
 | succ n ih => simp only [mineT]; split <;> omega
theorem manyT_yes (L : List (Int × Key)) (n : Nat) (h : firstT L n = true) : manyT L (n + 1) = manyT L n + 1 := by simp [manyT, h]
theorem manyT_no (L : List (Int × Key)) (n : Nat) (h : firstT L n = false) : manyT L (n + 1) = manyT L n := by simp [manyT, h]
def firstTo (L : List (Int × Key)) (i j : Nat) : Bool := decide (0 < tailAt L i) && (List.range j).all (fun k => decide (tailAt L k ≠ tailAt L i))
theorem firstTo_succ (L : List (Int × Key)) (i j : Nat) : firstTo L i (j + 1) = (firstTo L i j && decide (tailAt L j ≠ tailAt L i)) := by
 unfold firstTo
 rw [List.range_succ, List.all_append]
 simp [Bool.and_assoc]
theorem mineT_yes (L : List (Int × Key)) (n k : Nat) (h1 : 0 < tailAt L k) (h : tailAt L k = n) : mineT L n (k + 1) = mineT L n k + 1 := by simp only [mineT]; rw [if_pos ⟨h1, h⟩]
theorem mineT_no (L : List (Int × Key)) (n k : Nat) (h : ¬ (0 < tailAt L k ∧ tailAt L k = n)) : mineT L n (k + 1) = mineT L n k := by simp only [mineT]; rw [if_neg h]
set_option maxRecDepth 100000 in
set_option maxHeartbeats 2000000 in
theorem reftails_any (Y d n : Nat) (c : Cfg) (L : List (Int × Key)) (ok : Nat → Prop) (il : List (List Nat)) (nt : Nat) (vL vI : Value) (w : World) (h : RefI ok w Y d c L il nt vL vI) :
   Calls Tryz.prog 33 #[.pointer (some ⟨Y, 0, none⟩), .int .i64 n] w fun e w' => e = .returned (.tuple #[.int .i64 (manyT L L.length), .int .i64 (mineT L n L.length)]) ∧ w' = w := by
 have y1 : w.cell? ⟨Y, 1, none⟩ = some vL := by rw [cell_blk h.obj]; rfl
 have hmany := h.many
 obtain ⟨a, cap, rfl, hc1, hc2, hcells⟩ := h.seqs.cells
 have HC := hide hcells
 clear hcells
 go_enter Tryz.func33, Tryz.ntmps33
 go_wp2
 go_loop [6, 7, 8] (fun m n' i => ∃ k : Nat, k ≤ L.length ∧ i = .int .i64 k ∧ m = .int .i64 (manyT L k) ∧ n' = .int .i64 (mineT L n k)) (fun _ _ i => L.length - (intOf i).toNat)
 case atStart => exact ⟨0, Nat.zero_le _, rfl, rfl, rfl⟩
 case round =>
   obtain ⟨k, hk, rfl, rfl, rfl⟩ := hrel
   have hck := manyT_le L k
   have hcm := mineT_le L n k
   by_cases hlt : k < L.length
   · obtain ⟨g, rfl, hg, hcell⟩ := HC.out (by omega)
     obtain ⟨_, _, c2⟩ := hcell k hlt
     have Hcell := hide hcell
     clear hcell
     have Hyes := hide (manyT_yes L k)
     have Hno := hide (manyT_no L k)
     have Hmy := hide (mineT_yes L n k)
     have Hmn := hide (mineT_no L n k)
     have f0 : Hid (Value.bool (decide (0 < tailAt L k)) = .bool (firstTo L k 0)) := by show _ = _; unfold firstTo; simp
     generalize manyT L k = mk at *
     generalize mineT L n k = nk at *
     go_wp2
     go_loop [10, 11] (fun f i => ∃ j : Nat, j ≤ k ∧ i = .int .i64 j ∧ f = .bool (firstTo L k j)) (fun _ i => k - (intOf i).toNat)
     case atStart => exact ⟨0, Nat.zero_le _, rfl, f0.out⟩
     case round =>
       obtain ⟨j, hj, rfl, rfl⟩ := hrel
       by_cases hjk : j < k
       · obtain ⟨_, _, cj⟩ := Hcell.out j (by omega)
         have Hs := hide (firstTo_succ L k j)
         cases hf : firstTo L k j
         · rw [hf] at Hs
           go_wp2
           go_round
           case rel => exact ⟨j + 1, by omega, by go_num, by rw [Hs.out]; rfl⟩
           case measure => simp [intOf]; omega
         · rw [hf] at Hs
           go_wp2
           go_round
           case rel => exact ⟨j + 1, by omega, by go_num, by rw [Hs.out]; congr 1; rw [Bool.eq_iff_iff]; simp; omega⟩
           case measure => simp [intOf]; omega
       · have hje : j = k := by omega
         subst hje
         by_cases hm : 0 < tailAt L j ∧ tailAt L j = n
         · obtain ⟨m1, m2⟩ := hm
           have hmm := Hmy.out m1 m2
           have Hmm := hide hmm
           rw [m2] at c2 m1
           cases hf : firstTo L j j
           · have Hf := hide (Hno.out hf)
             clear hmm hf f0
             go_wp2
             go_round
             case rel => exact ⟨j + 1, by omega, by go_num, by rw [Hf.out], by rw [Hmm.out]; go_num⟩
             case measure => simp [intOf]; omega
           · have Hf := hide (Hyes.out hf)
             clear hmm hf f0
             go_wp2
             go_round
             case rel => exact ⟨j + 1, by omega, by go_num, by rw [Hf.out]; go_num, by rw [Hmm.out]; go_num⟩
             case measure => simp [intOf]; omega
         · have Hmm := hide (Hmn.out hm)
           by_cases h0 : 0 < tailAt L j
           · have hne : ¬ tailAt L j = n := fun e => hm ⟨h0, e⟩
             have hne' : ((tailAt L j : Int) == (n : Int)) = false := by rw [beq_eq_false_iff_ne]; omega
             cases hf : firstTo L j j
             · have Hf := hide (Hno.out hf)
               clear hf f0
               go_wp2
               go_round
               case rel => exact ⟨j + 1, by omega, by go_num, by rw [Hf.out], by rw [Hmm.out]⟩
               case measure => simp [intOf]; omega
             · have Hf := hide (Hyes.out hf)
               clear hf f0
               go_wp2
               go_round
               case rel => exact ⟨j + 1, by omega, by go_num, by rw [Hf.out]; go_num, by rw [Hmm.out]⟩
               case measure => simp [intOf]; omega
           · have hz : tailAt L j = 0 := by omega
             have hf : firstTo L j j = false := by unfold firstTo; rw [hz]; simp
             have Hf := hide (Hno.out hf)
             rw [hf]
             rw [hz] at c2
             clear hf f0
             go_wp2
             go_round
             case rel => exact ⟨j + 1, by omega, by go_num, by rw [Hf.out], by rw [Hmm.out]⟩
             case measure => simp [intOf]; omega
   · have hkr : k = L.length := by omega
     subst hkr
     go_wp2
     go_ret2
     exact ⟨rfl, rfl⟩
set_option maxRecDepth 100000 in
set_option maxHeartbeats 2000000 in
theorem refstats_any (Y d : Nat) (c : Cfg) (hc : c.ok) (L : List (Int × Key)) (ok : Nat → Prop) (il : List (List Nat)) (nt : Nat) (vL vI : Value) (w : World) (h : RefI ok w Y d c L il nt vL vI) :
   Calls Tryz.prog 13 #[.pointer (some ⟨Y, 0, none⟩)] w fun e w' =>
     e = .returned (.agg #[.int .i64 ((c.blocks : Int) - ((usedOf c.slots (toksOf L)).length + manyT L L.length : Nat) - il.length), .int .i64 il.length, .int .i64 ((usedOf c.slots (toksOf L)).length + manyT L L.length : Nat)]) ∧ Below w.heap.size w w' := by
 have hub := used_bd (s := c.slots) L.length h.many (fun i hi => (h.lenAt i hi).2)
 rw [List.take_of_length_le (by rw [toksOf_len]; omega)] at hub
 have hcb := manyT_le L L.length
 have hmany := h.many
 obtain ⟨bl1, bl2⟩ := hc.blocks
 go_enter Tryz.func13, Tryz.ntmps13
 go_wp2_with fail
 have hB0 : Below w.heap.size w (w.alloc (.cells #[.int .i64 0, .int .i64 0, .int .i64 0] 42)) := (Below.refl _ _).alloc (Nat.le_refl _) _
 have hnew := alloc_new w (.cells #[.int .i64 0, .int .i64 0, .int .i64 0] 42)
 generalize w.alloc (.cells #[.int .i64 0, .int .i64 0, .int .i64 0] 42) = W0 at hB0 hnew ⊢
 refine Calls_use (reftails_any Y d 0 c L ok il nt vL vI W0 (h.below hB0)) ?_
 go_wp2_with fail
 refine (refused_any Y d c hc L ok il nt vL vI W0 (h.below hB0)).mono ?_
 rintro e W1 ⟨r, rfl, hr, hb1⟩
 obtain ⟨ar, cr, er⟩ := hr.len
 subst er
 have hB1 := hB0.trans (hb1.mono hB0.size)
 have h1 := h.below hB1
 have y0 : W1.cell? ⟨Y, 0, none⟩ = some (.pointer (some ⟨d, 0, none⟩)) := by rw [cell_blk h1.obj]; rfl
 have y2 : W1.cell? ⟨Y, 2, none⟩ = some vI := by rw [cell_blk h1.obj]; rfl
 have hilb := h.ilen
 obtain ⟨vsI, ⟨aI, cI, eI, -, -, -⟩, -⟩ := h.idle.row
 rw [eI] at y2
 have d0 : W1.cell? ⟨d, 0, none⟩ = some (.int .i64 c.blocks) := by
   obtain ⟨vW, h2, _⟩ := h1.dec
   rw [cell_blk h2]; rfl
 have hn1 := (hb1.block _ (lt_blk hnew)).trans hnew
 have n0 : W1.cell? ⟨w.heap.size, 0, none⟩ = some (.int .i64 0) := by rw [cell_blk hn1]; rfl
 have n1 : W1.cell? ⟨w.heap.size, 1, none⟩ = some (.int .i64 0) := by rw [cell_blk hn1]; rfl
 have n2 : W1.cell? ⟨w.heap.size, 2, none⟩ = some (.int .i64 0) := by rw [cell_blk hn1]; rfl
 have f0 := frozen_blk hn1 0
 have f1 := frozen_blk hn1 1
 have f2 := frozen_blk hn1 2
 go_wp2
 refine bodyPost_ret (v := .agg #[.int .i64 ((c.blocks : Int) - ((usedOf c.slots (toksOf L)).length + manyT L L.length : Nat) - il.length), .int .i64 il.length, .int .i64 ((usedOf c.slots (toksOf L)).length + manyT L L.length : Nat)]) ?_ rfl ⟨rfl, ((hB1.setCell (Nat.le_refl _) _).setCell (Nat.le_refl _) _).setCell (Nat.le_refl _) _⟩
 simp [results, Tryz.results13, go_sem, n0, n1, n2]
end Go.Proofs.YtlmflighkkgikaaGreat
