import Derived.Test.YtaidjhlijadmiaaP13
import Derived.Test.YtaidjhlijadmiaaP15
import Derived.Test.YtaidjhlijadmiaaP18

/-
  The program's pool of blocks.
-/
namespace Go.Proofs.Ytaidjhlijadmiaa
open Go.RowKit
attribute [local go_sem ↓] Go.wp_at_zero Go.wp_at_succ

/-- The pool lies at PL, its free blocks' row at FB. -/
structure PoolI (w : World) (PL FB nf cap : Nat) (free : Nat → Nat) : Prop where
  obj : w.heap[PL]? = some (.cells #[.slice (some ⟨FB, 0, none⟩) nf cap] 120 (0, 0))
  row : ∃ arr : Array Value, w.heap[FB]? = some (.cells arr 78 (0, 0)) ∧ arr.size = cap ∧ ∀ i, i < nf → arr[i]? = some (.pointer (some ⟨free i, 0, none⟩))
  le : nf ≤ cap
  cap : cap ≤ maxLen
  blank : ∀ i, i < nf → w.heap[free i]? = some (.cells #[.slice none 0 0] 90 (0, 0))
  inj : ∀ i j, i < nf → j < nf → free i = free j → i = j

theorem poolfree_any (PL FB nf cap : Nat) (free : Nat → Nat) (w : World) (h : PoolI w PL FB nf cap free) :
    Calls Try.prog 35 #[.pointer (some ⟨PL, 0, none⟩)] w fun e w' => e = .returned (.int .i64 nf) ∧ w' = w := by
  have c0 : w.cell? ⟨PL, 0, none⟩ = some (.slice (some ⟨FB, 0, none⟩) nf cap) := by rw [cell_blk h.obj]; rfl
  go_enter Try.func35, Try.ntmps35
  go_wp2
  go_ret
  exact ⟨rfl, rfl⟩

set_option maxRecDepth 100000 in
set_option maxHeartbeats 1000000 in
theorem pooltake_any (PL FB nf cap : Nat) (free : Nat → Nat) (w : World) (h : PoolI w PL FB (nf + 1) cap free) :
    Calls Try.prog 76 #[.pointer (some ⟨PL, 0, none⟩)] w fun e w' =>
      e = .returned (.pointer (some ⟨free nf, 0, none⟩)) ∧ PoolI w' PL FB nf cap free ∧ Only (fun k => k = PL ∨ k = FB) w w' ∧ w'.heap.size = w.heap.size := by
  obtain ⟨arr, r0, r1, r2⟩ := h.row
  have hle := h.le
  have hcap := h.cap
  unfold maxLen at hcap
  have c0 : w.cell? ⟨PL, 0, none⟩ = some (.slice (some ⟨FB, 0, none⟩) (nf + 1) cap) := by rw [cell_blk h.obj]; rfl
  have c1 : w.cell? ⟨FB, nf, none⟩ = some (.pointer (some ⟨free nf, 0, none⟩)) := by rw [cell_blk r0]; exact r2 nf (by omega)
  have f0 := frozen_blk h.obj 0
  have f1 := frozen_blk r0 nf
  have hne : PL ≠ FB := fun e => by
    have q := h.obj
    rw [e, r0] at q
    injection q with q
    injection q with _ q _
    exact absurd q (by decide)
  have hnw : IntKind.i64.wrap ((nf : Int) + 1 - 1) = nf := by rw [wrap_in (by omega) (by omega)]; omega
  go_enter Try.func76, Try.ntmps76
  go_wp2
  go_ret
  refine ⟨rfl, ⟨?_, ⟨arr.setIfInBounds nf (.pointer none), ?_, by simpa using r1, fun i hi => ?_⟩, by omega, h.cap, fun i hi => ?_, fun i j hi hj e => h.inj i j (by omega) (by omega) e⟩, ((Only.refl _ _).setCell (fun _ => .inr rfl) _).setCell (fun _ => .inl rfl) _, by simp [World.setCell]⟩
  · have q : (w.setCell ⟨FB, nf, none⟩ (.pointer none)).heap[PL]? = some (.cells #[.slice (some ⟨FB, 0, none⟩) (nf + 1) cap] 120 (0, 0)) := by rw [setCell_far _ _ _ _ _ hne]; exact h.obj
    rw [setCell_blk q]; rfl
  · rw [setCell_far _ _ _ _ _ hne.symm]; exact setCell_blk r0 _ _
  · rw [Array.getElem?_setIfInBounds_ne (by omega)]; exact r2 i (by omega)
  · have q := h.blank i (by omega)
    have n1 : free i ≠ PL := fun e => by
      have q' := h.obj
      rw [← e, q] at q'
      injection q' with q'
      injection q' with _ q' _
      exact absurd q' (by decide)
    have n2 : free i ≠ FB := fun e => by
      rw [← e, q] at r0
      injection r0 with r0
      injection r0 with _ r0 _
      exact absurd r0 (by decide)
    rw [setCell_far _ _ _ _ _ n1, setCell_far _ _ _ _ _ n2]; exact q

theorem Try.info_ptr : (Try.prog.info? 78).map (fun i => (i.zero, i.size, i.bytes)) = some (some (.pointer none), 1, 8) := by kernel_rfl

set_option maxRecDepth 100000 in
set_option maxHeartbeats 1000000 in
theorem newpool_any (n : Nat) (w : World) (h1 : 1 ≤ n) (h2 : n ≤ 32) :
    Calls Try.prog 40 #[.int .i64 n] w fun e w' =>
      ∃ PL FB cap free, e = .returned (.pointer (some ⟨PL, 0, none⟩)) ∧ PoolI w' PL FB n cap free ∧ Below w.heap.size w w' ∧ w.heap.size ≤ PL ∧ w.heap.size ≤ FB ∧ ∀ i, i < n → w.heap.size ≤ free i := by
  obtain ⟨i0, hi, hz0, hz1, hz2⟩ := info_parts Try.info_ptr
  go_enter Try.func40, Try.ntmps40
  go_wp2
  go_loopw [7] (fun i wr => ∃ (k : Nat) (v : Value) (free : Nat → Nat), k ≤ n ∧ i = .int .i64 k ∧ wr.heap[w.heap.size]? = some (.cells #[v] 120 (0, 0)) ∧ wr.ownsRow (w.heap.size + 1) 78 1 v k ((List.range k).map fun i => .pointer (some ⟨free i, 0, none⟩)) ∧
      Hid (∀ i, i < k → w.heap.size < free i ∧ wr.heap[free i]? = some (.cells #[.slice none 0 0] 90 (0, 0))) ∧ Hid (∀ i j, i < k → j < k → free i = free j → i = j) ∧ Below w.heap.size w wr) (fun i _ => n - (intOf i).toNat)
  case atStart => exact ⟨0, .slice none 0 0, fun _ => 0, Nat.zero_le _, rfl, alloc_new w _, World.ownsRow_nil _ _ _ _, fun i hi => absurd hi (by omega), fun i j hi => absurd hi (by omega), (Below.refl _ _).alloc (Nat.le_refl _) _⟩
  case round =>
    obtain ⟨k, v, free, hk, rfl, hobj, hown, Hfree, Hinj, hbel⟩ := hrel
    have hpl := lt_blk hobj
    by_cases hlt : k < n
    · have c0 : wr.cell? ⟨w.heap.size, 0, none⟩ = some v := by rw [cell_blk hobj]; rfl
      have f0 := frozen_blk hobj 0
      have hneP : some w.heap.size ≠ v.ownBlock := fun e => by have := (hown.lt _ e.symm).1; omega
      obtain ⟨av, cv, rfl⟩ : ∃ a c, v = .slice a k c := by
        obtain ⟨_, ⟨rfl, e⟩ | ⟨g, cap, cur, rfl, _⟩⟩ := hown
        · exact ⟨none, 0, by rw [e]⟩
        · exact ⟨_, cap, rfl⟩
      go_wp2_with (at_builtin; refine wpList_append_lies _ rfl _ _ _ rfl (w.heap.size + 1) 78 i0 _ 1 8 Try.underlying72 hi hz0 hz1 hz2 rfl (by omega) (.slice av k cv) k _ rfl ((hown.alloc _).alloc _) ⟨wr.heap.size + 1, 0, none⟩ 1 1 [.pointer (some ⟨wr.heap.size, 0, none⟩)] rfl rfl (by intro j u hj; have := one_new (wr.alloc (.cells #[.slice none 0 0] 90)) (.pointer (some ⟨wr.heap.size, 0, none⟩)) 78 j u hj; simpa using this) (by intro u hu; simp at hu; subst hu; rfl) (by omega) (by unfold maxLen; omega) (by omega) (by simp; omega) (wr.heap.size + 2) (by simp) ?_; intro g cap w1 hown1 hgrow hat hlt1; have hobj1 := (hgrow.block w.heap.size (by simp; omega) hneP).trans ((alloc_old _ _ _ (by simp; omega)).trans ((alloc_old _ _ _ hpl).trans hobj)); have d0 : w1.cell? ⟨w.heap.size, 0, none⟩ = some (.slice av k cv) := (by rw [cell_blk hobj1]; rfl); have g0 := frozen_blk hobj1 0)
      have hne2 : ∀ b, b ≤ wr.heap.size → (∃ arr : Array Value, ((wr.alloc (.cells #[.slice none 0 0] 90)).heap[b]? = some (.cells arr 90 (0, 0)))) → w1.heap[b]? = (wr.alloc (.cells #[.slice none 0 0] 90)).heap[b]? := fun b hb ⟨arr, harr⟩ => by
        rw [hgrow.block b (by simp; omega) (fun e => by
          have hown' := hown.alloc (.cells #[.slice none 0 0] 90)
          obtain ⟨_, ⟨q, _⟩ | ⟨g2, cap2, cur2, q, _, hg2, _⟩⟩ := hown'
          · rw [q] at e; simp [Value.ownBlock] at e
          · rw [q] at e; simp [Value.ownBlock] at e; subst e
            rw [hg2] at harr; injection harr with harr; injection harr with _ harr _; exact absurd harr (by decide)), alloc_old _ _ _ (by simp; omega)]
      have hnewb := alloc_new wr (.cells #[.slice none 0 0] 90)
      have far : ∀ b, b ≠ w.heap.size → (w1.setCell ⟨w.heap.size, 0, none⟩ (.slice (some ⟨g, 0, none⟩) (k + 1) cap)).heap[b]? = w1.heap[b]? := fun b hb => setCell_far _ _ _ _ _ hb
      have hbl := hbel.size
      go_roundw
      case rel =>
        refine ⟨k + 1, .slice (some ⟨g, 0, none⟩) (k + 1) cap, fun i => if i = k then wr.heap.size else free i, by omega, by go_num, ?_, ?_, fun i hi => ?_, fun i j hi hj e => ?_, (((hbel.alloc hbl _).alloc (by simp; omega) _).grown hgrow (by simp; omega) (fun b hb => by have := (hown.lt b hb).1; omega)).setCell (Nat.le_refl _) _⟩
        · rw [setCell_blk hobj1]; rfl
        · have e8 : (List.range (k + 1)).map (fun i => Value.pointer (some ⟨if i = k then wr.heap.size else free i, 0, none⟩)) = (List.range k).map (fun i => Value.pointer (some ⟨free i, 0, none⟩)) ++ [.pointer (some ⟨wr.heap.size, 0, none⟩)] := by
            rw [range_map_succ, if_pos rfl]
            congr 1
            apply List.map_congr_left
            intro i hi
            rw [if_neg (by have := List.mem_range.1 hi; omega)]
          rw [e8]
          exact ownsRow_setCell_below hown1 (by show w.heap.size < w.heap.size + 1; omega) _
        · by_cases e : i = k
          · simp only [if_pos e]
            refine ⟨by omega, ?_⟩
            rw [far _ (by omega), hne2 _ (Nat.le_refl _) ⟨_, hnewb⟩]; exact hnewb
          · simp only [if_neg e]
            obtain ⟨q1, q2⟩ := Hfree.out i (by omega)
            have q3 : (wr.alloc (.cells #[.slice none 0 0] 90)).heap[free i]? = some (.cells #[.slice none 0 0] 90 (0, 0)) := by rw [alloc_old _ _ _ (lt_blk q2)]; exact q2
            refine ⟨q1, ?_⟩
            rw [far _ (by omega), hne2 _ (by have := lt_blk q2; omega) ⟨_, q3⟩]; exact q3
        · by_cases e1 : i = k
          · by_cases e2 : j = k
            · omega
            · simp only [if_pos e1, if_neg e2] at e
              have := lt_blk (Hfree.out j (by omega)).2
              omega
          · by_cases e2 : j = k
            · simp only [if_neg e1, if_pos e2] at e
              have := lt_blk (Hfree.out i (by omega)).2
              omega
            · simp only [if_neg e1, if_neg e2] at e
              exact Hinj.out i j (by omega) (by omega) e
      case measure => simp [intOf]; omega
    · have hke : k = n := by omega
      subst hke
      obtain ⟨_, ⟨_, e⟩ | ⟨g, cap, cur, rfl, hg, hh, q1, q2, q3, q4⟩⟩ := hown
      · omega
      · go_wp2
        go_ret
        refine ⟨w.heap.size, g, cap, free, rfl, ⟨hobj, ⟨cur, hh, by omega, fun i hi => ?_⟩, q1, q2, fun i hi => (Hfree.out i hi).2, Hinj.out⟩, hbel, Nat.le_refl _, by omega, fun i hi => by have := (Hfree.out i hi).1; omega⟩
        have := congrArg (fun l => l[i]?) q4
        simp [hi] at this
        simpa using this

end Go.Proofs.Ytaidjhlijadmiaa

/-
  The reference's beginnings in use; its tails; Stats.
-/
namespace Go.Proofs.Ytaidjhlijadmiaa
open Go.RowKit
attribute [local go_sem ↓] Go.wp_at_zero Go.wp_at_succ

/-- The tokens of the sequences. -/
def toksOf (L : List (Int × List Nat)) : List (List Nat) := L.map (·.2)

theorem toksOf_len (L : List (Int × List Nat)) : (toksOf L).length = L.length := by unfold toksOf; simp
theorem toksOf_take (L : List (Int × List Nat)) (k : Nat) (h : k < L.length) : (toksOf L).take (k + 1) = (toksOf L).take k ++ [toksAt L k] := by
  rw [take_snoc' _ [] _ (by rw [toksOf_len]; exact h)]
  congr 2
  unfold toksOf toksAt
  simp [List.getD_eq_getElem?_getD, h]
theorem toksOf_mem (L : List (Int × List Nat)) (T : List Nat) (h : T ∈ toksOf L) : ∃ i, i < L.length ∧ toksAt L i = T := by
  obtain ⟨i, hi, e⟩ := List.getElem_of_mem h
  rw [toksOf_len] at hi
  refine ⟨i, hi, ?_⟩
  rw [← e]
  simp only [toksOf, toksAt, List.getElem_map]
  simp [List.getD_eq_getElem?_getD, hi]

/-- A slice of lists stays while another block is grown. -/
theorem TokRow.grown {w w' : World} {v : Value} {l : List (List Nat)} {r : Option Nat} (h : TokRow w v l) (hg : w.grownBy w' r) (hne : ∀ a n c, v = .slice (some a) n c → r ≠ some a.block) (hk : KeepT 3 w w') : TokRow w' v l := by
  obtain ⟨vs, ⟨a, c, rfl, h1, h2, h3⟩, h4⟩ := h
  refine ⟨vs, ⟨a, c, rfl, h1, h2, fun h0 => ?_⟩, fun i hi => (h4 i hi).keep hk⟩
  obtain ⟨b, off, rfl, hb, hc⟩ := h3 h0
  refine ⟨b, off, rfl, Nat.lt_of_lt_of_le hb hg.size, fun j hj => hg.cell (hc j hj) (fun e => hne _ _ _ rfl e.symm)⟩

theorem used_bd {s : Nat} {L : List (Int × List Nat)} (k : Nat) (h1 : L.length ≤ 8) (h2 : ∀ i, i < L.length → (toksAt L i).length ≤ 40) : (usedOf s ((toksOf L).take k)).length ≤ 320 := by
  have := usedOf_len s ((toksOf L).take k) 40 (fun T hT => by
    obtain ⟨i, hi, rfl⟩ := toksOf_mem L T (List.mem_of_mem_take hT)
    rw [wholesOf_len]
    exact Nat.le_trans (Nat.div_le_self _ _) (h2 i hi))
  rw [List.length_take, toksOf_len] at this
  have : min k L.length * 40 ≤ 8 * 40 := Nat.mul_le_mul_right _ (by omega)
  omega

set_option maxRecDepth 100000 in
set_option maxHeartbeats 2000000 in
theorem refused_any (Y d : Nat) (c : Cfg) (hc : c.ok) (L : List (Int × List Nat)) (tl : Nat → Nat) (nt : Nat) (vL : Value) (w : World) (h : RefI w Y d c L tl nt vL) :
    Calls Try.prog 31 #[.pointer (some ⟨Y, 0, none⟩)] w fun e w' => ∃ r, e = .returned r ∧ OwnToks w.heap.size w' r (usedOf c.slots (toksOf L)) ∧ Below w.heap.size w w' := by
  obtain ⟨i1, hi', hz0', hz1', hz2'⟩ := info_parts Try.info_ints2
  obtain ⟨s1, s2⟩ := hc.slots
  have hYl := lt_blk h.obj
  have hdl := h.dec.lt
  have y0 : w.cell? ⟨Y, 0, none⟩ = some (.pointer (some ⟨d, 0, none⟩)) := by rw [cell_blk h.obj]; rfl
  have y1 : w.cell? ⟨Y, 1, none⟩ = some vL := by rw [cell_blk h.obj]; rfl
  have dd1 : w.cell? ⟨d, 1, none⟩ = some (.int .i64 c.slots) := by
    obtain ⟨vW, h1, _⟩ := h.dec
    rw [cell_blk h1]; rfl
  have hmany := h.many
  obtain ⟨a, cap, rfl, hc1, hc2, hcells⟩ := h.seqs.cells
  have HC := hide hcells
  have HB := hide (fun k => used_bd (s := c.slots) k h.many (fun i hi => (h.len i hi).2))
  clear hcells
  go_enter Try.func31, Try.ntmps31
  go_wp2
  go_loopw [3, 4] (fun o i wr => ∃ k : Nat, k ≤ L.length ∧ i = .int .i64 k ∧ OwnToks w.heap.size wr o (usedOf c.slots ((toksOf L).take k)) ∧ Below w.heap.size w wr) (fun _ i _ => L.length - (intOf i).toNat)
  case atStart => exact ⟨0, Nat.zero_le _, rfl, OwnToks.nil _ _, Below.refl _ _⟩
  case round =>
    obtain ⟨k, hk, rfl, hown, hbel⟩ := hrel
    have hsz := hbel.size
    have r1 := (hbel.cell (p := ⟨Y, 1, none⟩) hYl).trans y1
    by_cases hlt : k < L.length
    · obtain ⟨g, rfl, hg, hcell⟩ := HC.out (by omega)
      obtain ⟨_, ⟨vt, ct, hT⟩, _⟩ := hcell k hlt
      have ct' := (hbel.cell (p := ⟨g, k * 3 + 1, none⟩) hg).trans ct
      have hlen := (h.len k hlt).2
      clear hcell ct
      go_wp2_with fail
      refine (refwholes_any Y d c.slots vt (toksAt L k) wr ((hbel.cell (p := ⟨Y, 0, none⟩) hYl).trans y0) ((hbel.cell (p := ⟨d, 1, none⟩) hdl).trans dd1) (by omega) (by omega) (hT.keep (KeepT.of_below hbel)) s1 (by omega) (by omega)).mono ?_
      rintro e w1 ⟨vw, rfl, hw1, hb1⟩
      have hown1 := hown.below hb1
      have hbel1 := hbel.trans (hb1.mono hsz)
      have hsz1 := hbel1.size
      have hwl : (wholesOf c.slots (toksAt L k)).length ≤ 40 := by rw [wholesOf_len]; exact Nat.le_trans (Nat.div_le_self _ _) hlen
      obtain ⟨aw, cw, ew⟩ := hw1.len
      subst ew
      have hne0 : ∀ a n e', Value.slice aw (wholesOf c.slots (toksAt L k)).length cw = .slice (some a) n e' → u3.ownBlock ≠ some a.block := fun a n e' e hh => by
        obtain ⟨vs, ⟨_, ⟨e1, _⟩ | ⟨g1, cap1, cur1, e1, hg1, _⟩⟩, _⟩ := hw1
        · rw [e1] at e; cases e
        · rw [e1] at e
          injection e with e _ _
          injection e with e
          subst e
          obtain ⟨_, hq, _⟩ := hown
          have := (hq.lt _ hh).2
          simp at this hg1
          omega
      have hrow1 := hw1.row
      have hU := HB.out k
      have HUs : Hid (usedOf c.slots ((toksOf L).take (k + 1)) = addAll (usedOf c.slots ((toksOf L).take k)) (wholesOf c.slots (toksAt L k))) := by
        show _ = _
        rw [toksOf_take L k hlt, usedOf_snoc]
      generalize usedOf c.slots ((toksOf L).take k) = U at hown hown1 hU HUs
      generalize wholesOf c.slots (toksAt L k) = bs at hw1 hwl hrow1 HUs hne0
      clear hown hbel hsz r1 ct' hw1 hb1
      go_wp2
      go_loopw [3, 6] (fun o i wr => ∃ j : Nat, j ≤ bs.length ∧ i = .int .i64 j ∧ OwnToks w.heap.size wr o (addAll U (bs.take j)) ∧ TokRow wr (.slice aw bs.length cw) bs ∧ Hid (∀ a n e', Value.slice aw bs.length cw = .slice (some a) n e' → o.ownBlock ≠ some a.block) ∧ Below w.heap.size w wr) (fun _ i _ => bs.length - (intOf i).toNat)
      case atStart => exact ⟨0, Nat.zero_le _, rfl, hown1, hrow1, hne0, hbel1⟩
      case round =>
        clear hown1 hrow1 hbel1 hsz1 hne0
        obtain ⟨j, hj, rfl, hown, hrow, Hne, hbel⟩ := hrel
        have hsz := hbel.size
        have hAl := addAll_len U (bs.take j)
        rw [List.length_take] at hAl
        by_cases hjl : j < bs.length
        · obtain ⟨vs, ⟨aw', cw', ew', hvr1, _, hvr3⟩, hvT⟩ := id hrow
          injection ew' with e1 e2 e3
          subst e1 e3
          obtain ⟨bw, ow, rfl, hbw, hcw⟩ := hvr3 (by omega)
          have cj := hcw j hjl
          have hTj := hvT j hjl
          obtain ⟨bj, ebj⟩ : ∃ bj, bj = bs.getD j [] := ⟨_, rfl⟩
          rw [← ebj] at hTj
          have Hbj := hide ebj
          clear ebj
          have Hrow := hide hrow
          have Hown := hide hown
          obtain ⟨vo, hvo1, hvo2⟩ := hown
          have Hvo2 := hide hvo2
          obtain ⟨ao, co, eo⟩ := Hown.out.len
          subst eo
          clear hcw hvr3 hvT hrow hvo2
          go_wp2_with fail
          refine (refin_any _ _ _ (bj) _ Hown.out.row hTj (by omega)).mono ?_
          rintro e w2 ⟨r, rfl, hr1, hr2, q, rfl⟩
          have cj' : (wr.drewN q).cell? ⟨bw, ow + j, none⟩ = some (vs j) := cj
          by_cases hin : bj ∈ addAll U (bs.take j)
          · have hr := hr1 hin
            go_wp2
            go_roundw
            case rel =>
              refine ⟨j + 1, by omega, by go_num, ?_, Hrow.out, Hne.out, below_drewN hbel _⟩
              rw [take_snoc' _ [] _ hjl, addAll_snoc, ← Hbj.out]
              unfold addTo
              rw [if_pos hin]
              exact Hown.out
            case measure => simp [intOf]; omega
          · have hr := hr2 hin
            subst hr
            obtain ⟨at', ct', et, _, _⟩ := hTj.slice
            rw [et] at cj' hTj
            go_wp2_with (at_builtin; refine wpList_append_lies _ rfl _ _ _ rfl w.heap.size 36 i1 _ 1 24 Try.underlying62 hi' hz0' hz1' hz2' rfl (by omega) _ _ _ rfl ((owns_drewN hvo1 q).alloc _) ⟨wr.heap.size, 0, none⟩ 1 1 [.slice at' (bj).length ct'] rfl rfl (one_new (wr.drewN q) _ _) (by intro u hu; simp at hu; subst hu; rfl) (by omega) (by unfold maxLen; omega) (by omega) (by simp; omega) (wr.heap.size + 1) (by simp) ?_; intro gg cap w3 hown2 hgrow hat hlt2)
            have hkt : KeepT 3 wr w3 := ((KeepT.drewN wr q).trans (KeepT.alloc _ _)).trans (KeepT.of_grown ((owns_drewN hvo1 q).alloc _) hgrow (by decide))
            have hbel' : Below w.heap.size w w3 := ((below_drewN hbel q).alloc (by simp; omega) _).grown hgrow (by simp; omega) (fun g hg => (hvo1.lt g hg).1)
            have hpush : OwnToks w.heap.size w3 (.slice (some ⟨gg, 0, none⟩) ((addAll U (bs.take j)).length + 1) cap) (addAll U (bs.take (j + 1))) := by
              rw [take_snoc' _ [] _ hjl, addAll_snoc, ← Hbj.out]
              unfold addTo
              rw [if_neg hin]
              exact Hown.out.push vo Hvo2.out hown2 hkt hTj
            have hrow' : TokRow w3 (.slice (some ⟨bw, ow, none⟩) bs.length cw) bs := by
              have h1 : TokRow ((wr.drewN q).alloc (.cells #[.slice at' (bj).length ct'] 36)) (.slice (some ⟨bw, ow, none⟩) bs.length cw) bs := Hrow.out.below (((below_drewN (Below.refl _ _) q)).alloc (by simp) _)
              exact h1.grown hgrow Hne.out (KeepT.of_grown ((owns_drewN hvo1 q).alloc _) hgrow (by decide))
            have hne' : Hid (∀ a n e', Value.slice (some ⟨bw, ow, none⟩) bs.length cw = .slice (some a) n e' → (Value.slice (some ⟨gg, 0, none⟩) ((addAll U (bs.take j)).length + 1) cap).ownBlock ≠ some a.block) := by
              intro a n e' e hh
              injection e with e _ _
              injection e with e
              subst e
              simp only [Value.ownBlock] at hh
              injection hh with hh
              subst hh
              rcases hat with hat | hat
              · exact Hne.out _ _ _ rfl hat
              · omega
            clear hown2 hgrow hkt
            go_wp2
            go_roundw
            case rel => exact ⟨j + 1, by omega, by go_num, hpush, hrow', hne', hbel'⟩
            case measure => simp [intOf]; omega
        · have hall : bs.take j = bs := List.take_of_length_le (by omega)
          rw [hall, ← HUs.out] at hown
          go_wp2
          go_roundw
          case rel => exact ⟨k + 1, by omega, by go_num, hown, hbel⟩
          case measure => simp [intOf]; omega
    · have hall : (toksOf L).take k = toksOf L := List.take_of_length_le (by rw [toksOf_len]; omega)
      rw [hall] at hown
      go_wp2
      go_ret
      exact ⟨_, rfl, hown, hbel⟩

end Go.Proofs.Ytaidjhlijadmiaa
