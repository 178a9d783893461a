import Derived.Test.YtaidjhlijadmiaaP12
import Derived.Test.YtaidjhlijadmiaaP23
import Derived.Test.YtaidjhlijadmiaaP29

/-
  The reference's put, for a new sequence.
-/
namespace Go.Proofs.Ytaidjhlijadmiaa
open Go.RowKit
attribute [local go_sem ↓] Go.wp_at_zero Go.wp_at_succ

/-- How many of the first j are not in a list. -/
def newTo (U bs : List (List Nat)) : Nat → Nat
  | 0 => 0
  | j + 1 => if bs.getD j [] ∈ U then newTo U bs j else newTo U bs j + 1

theorem newTo_le (U bs : List (List Nat)) (j : Nat) : newTo U bs j ≤ j := by
  induction j with
  | zero => simp [newTo]
  | succ j ih => simp only [newTo]; split <;> omega
theorem newTo_in (U bs : List (List Nat)) (j : Nat) (h : bs.getD j [] ∈ U) : newTo U bs (j + 1) = newTo U bs j := by simp only [newTo, if_pos h]
theorem newTo_out (U bs : List (List Nat)) (j : Nat) (h : bs.getD j [] ∉ U) : newTo U bs (j + 1) = newTo U bs j + 1 := by simp only [newTo, if_neg h]

/-- How many blocks tokens need anew. -/
def needOf (s : Nat) (U : List (List Nat)) (T : List Nat) : Nat := newTo U (wholesOf s T) (T.length / s) + if T.length % s = 0 then 0 else 1

theorem refin_nil (vb : Value) (b : List Nat) (w : World) (hb : TokT w vb b) :
    Calls Try.prog 57 #[.slice none 0 0, vb] w fun e w' => e = .returned (.int .i64 (-1)) ∧ ∃ q, w' = w.drewN q :=
  (refin_any _ vb [] b w (TokRow.nil w) hb (by simp)).mono (by
    rintro e w' ⟨r, rfl, _, h2, q, rfl⟩
    rw [h2 (by simp)]
    exact ⟨rfl, q, rfl⟩)

/-- The result is laid. -/
theorem put_end {w W : World} {Y R : Nat} {arr : Array Value} (hO : Only (fun k => k = Y) w W) (hR : W.heap[R]? = some (.cells arr 112 (0, 0))) (hge : w.heap.size ≤ R) (hne : Y ≠ R) (a b c : Value) :
    Only (fun k => k = Y) w (((W.setCell ⟨R, 0, none⟩ a).setCell ⟨R, 1, none⟩ b).setCell ⟨R, 2, none⟩ c) ∧ (((W.setCell ⟨R, 0, none⟩ a).setCell ⟨R, 1, none⟩ b).setCell ⟨R, 2, none⟩ c).heap[Y]? = W.heap[Y]? ∧ KeepT 3 W (((W.setCell ⟨R, 0, none⟩ a).setCell ⟨R, 1, none⟩ b).setCell ⟨R, 2, none⟩ c) := by
  refine ⟨((hO.setCell (fun h => absurd h (by simp; omega)) _).setCell (fun h => absurd h (by simp; omega)) _).setCell (fun h => absurd h (by simp; omega)) _, ?_, ?_⟩
  · rw [setCell_far _ _ _ _ _ hne, setCell_far _ _ _ _ _ hne, setCell_far _ _ _ _ _ hne]
  · exact ((KeepT.setCell hR (by decide) _).trans (KeepT.setCell (setCell_blk hR _ _) (by decide) _)).trans (KeepT.setCell (setCell_blk (setCell_blk hR _ _) _ _) (by decide) _)

/-- A store into the hoard itself. -/
theorem put_own {w W : World} {Y : Nat} {cur : Array Value} (hO : Only (fun k => k = Y) w W) (hY : W.heap[Y]? = some (.cells cur 69 (0, 0))) (i : Nat) (v : Value) :
    Only (fun k => k = Y) w (W.setCell ⟨Y, i, none⟩ v) ∧ (W.setCell ⟨Y, i, none⟩ v).heap[Y]? = some (.cells (cur.setIfInBounds i v) 69 (0, 0)) ∧ KeepT 3 W (W.setCell ⟨Y, i, none⟩ v) ∧ (∀ k, k ≠ Y → (W.setCell ⟨Y, i, none⟩ v).heap[k]? = W.heap[k]?) :=
  ⟨hO.setCell (fun _ => rfl) _, setCell_blk hY _ _, KeepT.setCell hY (by decide) _, fun k hk => setCell_far _ _ _ _ _ hk⟩

set_option maxRecDepth 100000 in
set_option maxHeartbeats 4000000 in
theorem refput_new (Y d : Nat) (c : Cfg) (hc : c.ok) (id : Int) (T : List Nat) (vt : Value) (L : List (Int × List Nat)) (tl : Nat → Nat) (nt : Nat) (vL : Value) (w : World) (h : RefI w Y d c L tl nt vL) (ht : Ints w vt T.length (tkI T)) (hT1 : 1 ≤ T.length) (hT2 : T.length ≤ 40) (hnt : nt ≤ 5000000000000) :
    Calls Try.prog 65 #[.pointer (some ⟨Y, 0, none⟩), .agg #[.int .i64 id, .slice none 0 0, .int .i64 0], vt] w fun e w' =>
      Only (fun k => k = Y) w w' ∧ ∃ nt', nt' = nt + (if T.length % c.slots = 0 then 0 else 1) ∧ w'.heap[Y]? = some (.cells #[.pointer (some ⟨d, 0, none⟩), vL, .slice none 0 0, .int .i64 nt'] 69 (0, 0)) ∧
      ((c.blocks < needOf c.slots (usedOf c.slots (toksOf L)) T + ((usedOf c.slots (toksOf L)).length + cntT tl L.length) ∧ e = .returned (.tuple #[.agg #[.int .i64 id, .slice none 0 0, .int .i64 0], .int .i64 6])) ∨
       (needOf c.slots (usedOf c.slots (toksOf L)) T + ((usedOf c.slots (toksOf L)).length + cntT tl L.length) ≤ c.blocks ∧ ∃ v, e = .returned (.tuple #[.agg #[.int .i64 id, v, .int .i64 (if T.length % c.slots = 0 then 0 else nt')], .int .i64 0]) ∧ TokT w' v T ∧ okV (fun b => w.heap.size ≤ b) v)) := by
  obtain ⟨i0, hi, hz0, hz1, hz2⟩ := info_parts Try.info_int
  obtain ⟨s1, s2⟩ := hc.slots
  obtain ⟨bl1, bl2⟩ := hc.blocks
  have hYl := lt_blk h.obj
  obtain ⟨at', ct, rfl, ht1, ht2, ht3⟩ := ht
  obtain ⟨bt, ot, rfl, hbt, hct⟩ := ht3 (by omega)
  have Hct := hide hct
  clear hct ht3
  have hn0 : ((T.length : Int) == 0) = false := by rw [beq_eq_false_iff_ne]; omega
  obtain ⟨W0, hW0⟩ : ∃ W0, W0 = (w.alloc (.cells #[.int .i64 id, .slice none 0 0, .int .i64 0] 112)).alloc (.cells #[.int .i64 0, .slice none 0 0, .int .i64 0] 112) := ⟨_, rfl⟩
  have hB0 : Below w.heap.size w W0 := by rw [hW0]; exact ((Below.refl _ _).alloc (Nat.le_refl _) _).alloc (by simp) _
  have hbox : W0.heap[w.heap.size]? = some (.cells #[.int .i64 id, .slice none 0 0, .int .i64 0] 112 (0, 0)) := by rw [hW0, alloc_old _ _ _ (by simp)]; exact alloc_new _ _
  have hres : W0.heap[w.heap.size + 1]? = some (.cells #[.int .i64 0, .slice none 0 0, .int .i64 0] 112 (0, 0)) := by
    rw [hW0]; have := alloc_new (w.alloc (.cells #[.int .i64 id, .slice none 0 0, .int .i64 0] 112)) (.cells #[.int .i64 0, .slice none 0 0, .int .i64 0] 112); simpa using this
  have hsz0 : W0.heap.size = w.heap.size + 2 := by rw [hW0]; simp
  have HW0 := hide hW0
  clear hW0
  have Hnews : Hid (∀ (j : Nat) (u : Value), ((List.range T.length).map fun i => Value.int .i64 (tkI T i))[j]? = some u → W0.cell? ((⟨bt, ot, none⟩ : Addr).add j) = some u) := fun j u hj => by
    have hlt : j < T.length := by
      have := (List.getElem?_eq_some_iff.1 hj).1
      simpa using this
    have e : (⟨bt, ot, none⟩ : Addr).add j = ⟨bt, ot + j, none⟩ := by unfold Addr.add; split <;> simp_all
    rw [e, hB0.cell (p := ⟨bt, ot + j, none⟩) hbt, Hct.out j hlt]
    simpa [hlt] using hj
  go_enter Try.func65, Try.ntmps65
  go_wp2_with (at_builtin; rw [← HW0.out]; refine wpList_append_own _ rfl _ _ 36 rfl w.heap.size 3 i0 (.int .i64 0) 1 8 Try.underlying36 hi hz0 hz1 hz2 rfl (by decide) (.slice none 0 0) 0 [] rfl (World.ownsRow_nil _ _ _ _) ⟨bt, ot, none⟩ T.length ct ((List.range T.length).map fun i => .int .i64 (tkI T i)) rfl (by simp) Hnews.out (ints_one _ _) (by unfold maxLen; omega) (by omega) hB0.size ?_; intro v1 W1 hown1 hgrow1 _; have hB1 : Below w.heap.size w W1 := hB0.grown hgrow1 hB0.size (fun k hk => by cases hk); have hbox1 := (hgrow1.block w.heap.size (by omega) (by simp [Value.ownBlock])).trans hbox; have hres1 := (hgrow1.block (w.heap.size + 1) (by omega) (by simp [Value.ownBlock])).trans hres; have b1 : W1.cell? ⟨w.heap.size, 1, none⟩ = some (.slice none 0 0) := by rw [cell_blk hbox1]; rfl)
  obtain ⟨b8, c8, ev, ho8⟩ : ∃ b cap, v1 = .slice (some ⟨b, 0, none⟩) T.length cap ∧ OwnI w.heap.size W1 b cap T.length (tkI T) := by
    rw [List.nil_append] at hown1
    simp only [Nat.zero_add] at hown1
    rcases OwnI.of_owns hown1 with ⟨_, h0⟩ | h0
    · omega
    · exact h0
  subst ev
  have ht8 : TokT W1 (.slice (some ⟨b8, 0, none⟩) T.length c8) T := ho8.ints
  have hge8 := ho8.ge
  have dd1 : w.cell? ⟨d, 1, none⟩ = some (.int .i64 c.slots) := by
    obtain ⟨vW, h1, _⟩ := h.dec
    rw [cell_blk h1]; rfl
  have y0 : w.cell? ⟨Y, 0, none⟩ = some (.pointer (some ⟨d, 0, none⟩)) := by rw [cell_blk h.obj]; rfl
  have hdl := h.dec.lt
  clear ho8 hown1 hgrow1 hbox hres hB0 Hnews
  refine (refwholes_any Y d c.slots (.slice none 0 0) [] W1 ((hB1.cell (p := ⟨Y, 0, none⟩) hYl).trans y0) ((hB1.cell (p := ⟨d, 1, none⟩) hdl).trans dd1) (by have := hB1.size; omega) (by have := hB1.size; omega) ⟨none, 0, rfl, by simp, by simp [maxLen], fun h => absurd h (by simp)⟩ s1 (by omega) (by simp)).mono ?_
  rintro e W2 ⟨r2, rfl, hr2, hb2⟩
  obtain ⟨a2, c2, e2⟩ := hr2.len
  rw [show (wholesOf c.slots []).length = 0 by rw [wholesOf_len]; simp] at e2
  subst e2
  have hB2 := hB1.trans (hb2.mono hB1.size)
  have ht82 := ht8.keep (KeepT.of_below hb2)
  have hbox2 := (hb2.block _ (lt_blk hbox1)).trans hbox1
  have hres2 := (hb2.block _ (lt_blk hres1)).trans hres1
  clear hbox1 hres1 hb2 hr2 ht8 b1
  go_wp2_with fail
  refine (refwholes_any Y d c.slots _ T W2 ((hB2.cell (p := ⟨Y, 0, none⟩) hYl).trans y0) ((hB2.cell (p := ⟨d, 1, none⟩) hdl).trans dd1) (by have := hB2.size; omega) (by have := hB2.size; omega) ht82 s1 (by omega) (by omega)).mono ?_
  rintro e W3 ⟨r3, rfl, hr3, hb3⟩
  obtain ⟨a3, c3, e3⟩ := hr3.len
  subst e3
  have hB3 := hB2.trans (hb3.mono hB2.size)
  have ht83 := ht82.keep (KeepT.of_below hb3)
  have hbox3 := (hb3.block _ (lt_blk hbox2)).trans hbox2
  have hres3 := (hb3.block _ (lt_blk hres2)).trans hres2
  clear hbox2 hres2 ht82 hb3
  go_wp2_with fail
  refine (refused_any Y d c hc L tl nt vL W3 (h.below hB3)).mono ?_
  rintro e W4 ⟨r4, rfl, hr4, hb4⟩
  obtain ⟨a4, c4, e4⟩ := hr4.len
  subst e4
  have hB4 := hB3.trans (hb4.mono hB3.size)
  have ht84 := ht83.keep (KeepT.of_below hb4)
  have hbox4 := (hb4.block _ (lt_blk hbox3)).trans hbox3
  have hres4 := (hb4.block _ (lt_blk hres3)).trans hres3
  have hr34 := hr3.row.below hb4
  clear hbox3 hres3 ht83 hr3 hb4
  go_wp2_with fail
  refine (refstats_any Y d c hc L tl nt vL W4 (h.below hB4)).mono ?_
  rintro e W5 ⟨rfl, hb5⟩
  have hB5 := hB4.trans (hb5.mono hB4.size)
  have ht85 := ht84.keep (KeepT.of_below hb5)
  have hbox5 := (hb5.block _ (lt_blk hbox4)).trans hbox4
  have hres5 := (hb5.block _ (lt_blk hres4)).trans hres4
  have hr35 := hr34.below hb5
  have hr45 := hr4.row.below hb5
  clear hbox4 hres4 ht84 hr34 hr4 hb5
  have hub := used_bd (s := c.slots) L.length h.many (fun i hi => (h.len i hi).2)
  rw [List.take_of_length_le (by rw [toksOf_len]; omega)] at hub
  have hcb := cntT_le tl L.length
  have hmany := h.many
  have b2 : W5.cell? ⟨w.heap.size, 2, none⟩ = some (.int .i64 0) := by rw [cell_blk hbox5]; rfl
  have hlb := lt_blk hbox5
  have b2' : ∀ o, (W5.alloc o).cell? ⟨w.heap.size, 2, none⟩ = some (.int .i64 0) := fun o => (World.cell?_alloc_past _ _ _ hlb).trans b2
  go_wp2_with fail
  obtain ⟨U, eU⟩ : ∃ U, U = (usedOf c.slots (toksOf L)) := ⟨_, rfl⟩
  obtain ⟨K, eK⟩ : ∃ K, K = cntT tl L.length := ⟨_, rfl⟩
  obtain ⟨N, eN⟩ : ∃ N, N = wholesOf c.slots T := ⟨_, rfl⟩
  rw [← eU] at hub hr45
  rw [← eK] at hcb
  rw [← eN] at hr35
  have HU := hide eU
  have HK := hide eK
  have HN := hide eN
  rw [← eU, ← eK]
  obtain ⟨W6, hW6⟩ : ∃ W6, W6 = (W5.alloc (.cells #[.int .i64 ((c.blocks : Int) - ((U.length : Int) + K)), .int .i64 0, .int .i64 ((U.length : Int) + K)] 42)) := ⟨_, rfl⟩
  rw [← hW6]
  have hb6 : Below W5.heap.size W5 W6 := by rw [hW6]; exact (Below.refl _ _).alloc (Nat.le_refl _) _
  have hst6 : W6.heap[W5.heap.size]? = some (.cells #[.int .i64 ((c.blocks : Int) - ((U.length : Int) + K)), .int .i64 0, .int .i64 ((U.length : Int) + K)] 42 (0, 0)) := by rw [hW6]; exact alloc_new _ _
  have hB6 := hB5.trans (hb6.mono hB5.size)
  have hge5 := hB5.size
  have ht86 := ht85.keep (KeepT.of_below hb6)
  have hbox6 := (hb6.block _ (lt_blk hbox5)).trans hbox5
  have hres6 := (hb6.block _ (lt_blk hres5)).trans hres5
  have hr36 := hr35.below hb6
  have hr46 := hr45.below hb6
  clear hbox5 hres5 ht85 hr35 hr45 hb6 hW6 eU eK eN b2 b2' hB1 hB2 hB3 hB4 hB5 hlb
  refine Calls_use (reftails_any Y d c L tl nt vL W6 (h.below hB6)) ?_
  rw [← HK.out]
  have hobj6 := (hB6.block Y hYl).trans h.obj
  have q0 : W6.cell? ⟨Y, 0, none⟩ = some (.pointer (some ⟨d, 0, none⟩)) := by rw [cell_blk hobj6]; rfl
  have q2 : W6.cell? ⟨Y, 2, none⟩ = some (.slice none 0 0) := by rw [cell_blk hobj6]; rfl
  have q3 : W6.cell? ⟨Y, 3, none⟩ = some (.int .i64 nt) := by rw [cell_blk hobj6]; rfl
  have qd : W6.cell? ⟨d, 1, none⟩ = some (.int .i64 c.slots) := (hB6.cell (p := ⟨d, 1, none⟩) hdl).trans dd1
  have fY2 := frozen_blk hobj6 2
  have fY3 := frozen_blk hobj6 3
  have b0 : W6.cell? ⟨w.heap.size, 0, none⟩ = some (.int .i64 id) := by rw [cell_blk hbox6]; rfl
  have b1 : W6.cell? ⟨w.heap.size, 1, none⟩ = some (.slice none 0 0) := by rw [cell_blk hbox6]; rfl
  have b2 : W6.cell? ⟨w.heap.size, 2, none⟩ = some (.int .i64 0) := by rw [cell_blk hbox6]; rfl
  have r0 : W6.cell? ⟨w.heap.size + 1, 0, none⟩ = some (.int .i64 0) := by rw [cell_blk hres6]; rfl
  have r1 : W6.cell? ⟨w.heap.size + 1, 1, none⟩ = some (.slice none 0 0) := by rw [cell_blk hres6]; rfl
  have r2 : W6.cell? ⟨w.heap.size + 1, 2, none⟩ = some (.int .i64 0) := by rw [cell_blk hres6]; rfl
  have fr0 := frozen_blk hres6 0
  have fr1 := frozen_blk hres6 1
  have fr2 := frozen_blk hres6 2
  have st0 : W6.cell? ⟨W5.heap.size, 0, none⟩ = some (.int .i64 ((c.blocks : Int) - ((U.length : Int) + K))) := by rw [cell_blk hst6]; rfl
  have st1 : W6.cell? ⟨W5.heap.size, 1, none⟩ = some (.int .i64 0) := by rw [cell_blk hst6]; rfl
  have hNl : N.length = T.length / c.slots := by rw [HN.out, wholesOf_len]
  have hNb : N.length ≤ 40 := by rw [hNl]; exact Nat.le_trans (Nat.div_le_self _ _) hT2
  rw [← HN.out]
  have HNl := hide hNl
  clear hNl
  obtain ⟨vs, hvrow, hvT⟩ := hr36
  obtain ⟨a3', c3', e3', hv1, _, hv3⟩ := hvrow
  injection e3' with e1 e2 e3
  subst e1 e3
  have Hv3 := hide hv3
  have HvT := hide hvT
  have Hr46 := hide hr46
  clear hv3 hvT hr46
  go_wp2_with fail
  go_loopw [15, 16, 17, 18] (fun kp a tk i wr => ∃ k : Nat, k ≤ N.length ∧ i = .int .i64 k ∧ a = .int .i64 (newTo U N k) ∧ kp = .bool false ∧ tk = .slice none 0 0 ∧ ∃ q, wr = W6.drewN q) (fun _ _ _ i _ => N.length - (intOf i).toNat)
  case atStart => exact ⟨0, Nat.zero_le _, rfl, rfl, rfl, rfl, 0, rfl⟩
  case round =>
    obtain ⟨k, hk, rfl, rfl, rfl, rfl, q, rfl⟩ := hrel
    have hnk := newTo_le U N k
    by_cases hlt : k < N.length
    · obtain ⟨bw, ow, rfl, hbw, hcw⟩ := Hv3.out (by omega)
      have ck := hcw k hlt
      have hTk := HvT.out k hlt
      obtain ⟨bk, ebk⟩ : ∃ bk, bk = N.getD k [] := ⟨_, rfl⟩
      rw [← ebk] at hTk
      have Hin := hide (newTo_in U N k)
      have Hout := hide (newTo_out U N k)
      rw [← ebk] at Hin Hout
      clear ebk hcw
      go_wp2_with fail
      refine (refin_any _ _ U bk (W6.drewN q) (by exact Hr46.out) (by exact hTk) (by omega)).mono ?_
      rintro e W7 ⟨r, rfl, hr1, hr2, q1, hW7⟩
      have k2 : W7.cell? ⟨Y, 2, none⟩ = some (.slice none 0 0) := by rw [hW7]; exact q2
      have kc : W7.cell? ⟨bw, ow + k, none⟩ = some (vs k) := by rw [hW7]; exact ck
      have kT : TokT W7 (vs k) bk := by rw [hW7]; exact hTk
      have HW7 := hide hW7
      clear hW7
      by_cases hin : bk ∈ U
      · have hr := hr1 hin
        go_wp2
        go_roundw
        case rel => exact ⟨k + 1, by omega, by go_num, by rw [Hin.out hin], rfl, rfl, _, by rw [HW7.out, World.drewN_drewN]⟩
        case measure => simp [intOf]; omega
      · have hr := hr2 hin
        subst hr
        have hkb : ((k : Int) == 0) = decide (k = 0) := by rw [Bool.eq_iff_iff]; simp
        obtain ⟨kb, ekb⟩ : ∃ kb, kb = decide (k = 0) := ⟨_, rfl⟩
        rw [← ekb] at hkb
        clear ekb
        cases kb
        all_goals
         go_wp2
         go_quiet ((go_at_call 57; exact Calls.quiet_of (refin_nil (vs k) bk _ (by exact kT))))
         go_wp2
         go_roundw
         case rel => exact ⟨k + 1, by omega, by go_num, by rw [Hout.out hin]; go_num, rfl, rfl, _, by rw [HW7.out, World.drewN_drewN, World.drewN_drewN]⟩
         case measure => simp [intOf]; omega
    · have hke : k = N.length := by omega
      subst hke
      have m1 : 0 ≤ (T.length : Int) % c.slots := Int.emod_nonneg _ (by omega)
      have m2 : (T.length : Int) % c.slots < c.slots := Int.emod_lt_of_pos _ (by omega)
      have hneed : needOf c.slots U T = newTo U N N.length + if T.length % c.slots = 0 then 0 else 1 := by unfold needOf; rw [← HN.out, HNl.out]
      have Hneed := hide hneed
      clear hneed
      have hz5 : W5.heap.size ≠ Y := by omega
      have hz6 : w.heap.size ≠ Y := by omega
      have hz7 : w.heap.size + 1 ≠ Y := by omega
      have hO6 : Only (fun k => k = Y) w (W6.drewN q) := (Only.of_below hB6 _).drewN q
      have Hobj6 := hide hobj6
      clear hobj6
      have hres7 : (W6.drewN q).heap[w.heap.size + 1]? = some (.cells #[.int .i64 0, .slice none 0 0, .int .i64 0] 112 (0, 0)) := hres6
      have hobj7 : (W6.drewN q).heap[Y]? = some (.cells #[.pointer (some ⟨d, 0, none⟩), vL, .slice none 0 0, .int .i64 nt] 69 (0, 0)) := Hobj6.out
      have ht87 : TokT (W6.drewN q) (.slice (some ⟨b8, 0, none⟩) T.length c8) T := ht86
      have Hre := hide hres7
      have Hob := hide hobj7
      have Ht8 := hide ht87
      have hok8 : Hid (okV (fun b => w.heap.size ≤ b) (.slice (some ⟨b8, 0, none⟩) T.length c8)) := fun a n e' e => by cases e; exact hge8
      clear hres7 hobj7 ht87 hres6 hbox6 ht86 hst6
      by_cases hm : T.length % c.slots = 0
      · have hm' : (T.length : Int) % c.slots = 0 := by omega
        rw [if_pos hm] at Hneed
        by_cases hfull : c.blocks < newTo U N N.length + (U.length + K)
        · have hf' : (c.blocks : Int) - ((U.length : Int) + K) < newTo U N N.length := by omega
          go_wp2
          refine bodyPost_ret (v := .tuple #[.agg #[.int .i64 id, .slice none 0 0, .int .i64 0], .int .i64 6]) ?_ rfl ?_
          · simp [results, Try.results65, go_sem, r0, r1, r2]
          · obtain ⟨z1, z2, z3⟩ := put_end hO6 Hre.out (by omega) (by omega) (.int .i64 id) (.slice none 0 0) (.int .i64 0)
            exact ⟨z1, z2.trans Hob.out, .inl ⟨by rw [← HU.out, ← HK.out, Hneed.out]; omega, rfl⟩⟩
        · go_wp2
          go_loop [20, 21, 22] (fun h l i => h = .int .i64 ((c.blocks : Int) - ((U.length : Int) + K)) ∧ l = .slice none 0 0 ∧ i = .int .i64 0) (fun _ _ _ => 0)
          case atStart => exact ⟨rfl, rfl, rfl⟩
          case round =>
            obtain ⟨rfl, rfl, rfl⟩ := hrel
            go_wp2
            refine bodyPost_ret (v := .tuple #[.agg #[.int .i64 id, .slice (some ⟨b8, 0, none⟩) T.length c8, .int .i64 0], .int .i64 0]) ?_ rfl ?_
            · simp [results, Try.results65, go_sem, r0, r1, r2]
            · obtain ⟨x1, x2, x3, x4⟩ := put_own hO6 Hob.out 2 (.slice none 0 0)
              obtain ⟨z1, z2, z3⟩ := put_end x1 ((x4 _ (by omega)).trans Hre.out) (by omega) (by omega) (.int .i64 id) (.slice (some ⟨b8, 0, none⟩) T.length c8) (.int .i64 0)
              exact ⟨z1, z2.trans x2, .inr ⟨by rw [← HU.out, ← HK.out, Hneed.out]; omega, _, rfl, (Ht8.out.keep x3).keep z3, hok8.out⟩⟩
      · have hm' : 0 < (T.length : Int) % c.slots := by omega
        rw [if_neg hm] at Hneed
        have hNb : ((N.length : Int) == 0) = decide (N.length = 0) := by rw [Bool.eq_iff_iff]; simp
        obtain ⟨kb, ekb⟩ : ∃ kb, kb = decide (N.length = 0) := ⟨_, rfl⟩
        rw [← ekb] at hNb
        clear ekb
        by_cases hfull : c.blocks < newTo U N N.length + 1 + (U.length + K)
        · have hf' : (c.blocks : Int) - ((U.length : Int) + K) < (newTo U N N.length : Int) + 1 := by omega
          cases kb
          all_goals
            go_wp2
            refine bodyPost_ret (v := .tuple #[.agg #[.int .i64 id, .slice none 0 0, .int .i64 0], .int .i64 6]) ?_ rfl ?_
            · simp [results, Try.results65, go_sem, r0, r1, r2]
            · obtain ⟨x1, x2, x3, x4⟩ := put_own hO6 Hob.out 3 (.int .i64 ((nt : Int) + 1))
              obtain ⟨z1, z2, z3⟩ := put_end x1 ((x4 _ (by omega)).trans Hre.out) (by omega) (by omega) (.int .i64 id) (.slice none 0 0) (.int .i64 0)
              exact ⟨z1, z2.trans x2, .inl ⟨by rw [← HU.out, ← HK.out, Hneed.out]; omega, rfl⟩⟩
        · cases kb
          all_goals
            go_wp2
            go_loop [20, 21, 22] (fun h l i => h = .int .i64 ((c.blocks : Int) - ((U.length : Int) + K)) ∧ l = .slice none 0 0 ∧ i = .int .i64 0) (fun _ _ _ => 0)
            case atStart => exact ⟨rfl, rfl, rfl⟩
            case round =>
              obtain ⟨rfl, rfl, rfl⟩ := hrel
              go_wp2
              refine bodyPost_ret (v := .tuple #[.agg #[.int .i64 id, .slice (some ⟨b8, 0, none⟩) T.length c8, .int .i64 ((nt : Int) + 1)], .int .i64 0]) ?_ rfl ?_
              · simp [results, Try.results65, go_sem, r0, r1, r2]
              · obtain ⟨y1, y2, y3, y4⟩ := put_own hO6 Hob.out 3 (.int .i64 ((nt : Int) + 1))
                obtain ⟨x1, x2, x3, x4⟩ := put_own y1 y2 2 (.slice none 0 0)
                obtain ⟨z1, z2, z3⟩ := put_end x1 ((x4 _ (by omega)).trans ((y4 _ (by omega)).trans Hre.out)) (by omega) (by omega) (.int .i64 id) (.slice (some ⟨b8, 0, none⟩) T.length c8) (.int .i64 ((nt : Int) + 1))
                exact ⟨z1, z2.trans x2, .inr ⟨by rw [← HU.out, ← HK.out, Hneed.out]; omega, _, rfl, ((Ht8.out.keep y3).keep x3).keep z3, hok8.out⟩⟩

end Go.Proofs.Ytaidjhlijadmiaa
