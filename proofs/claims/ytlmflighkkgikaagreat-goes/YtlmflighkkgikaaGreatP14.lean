import Derived.Test.YtlmflighkkgikaaGreatP12

namespace Go.Proofs.YtlmflighkkgikaaGreat
open Go.RowKit
set_option maxRecDepth 100000 in
theorem roomy_nil (w : World) : Calls Tryz.prog 43 #[.slice none 0 0] w fun e w' => e = .returned (.slice none 0 0) ∧ w' = w := by
 have hnil := fun w a n c n' c' => Go.Lib.run_eql_slice_nil (P := Tryz.prog) w 36 3 a n c n' c' Tryz.underlying36
 go_enter Tryz.func43, Tryz.ntmps43
 go_wp2
 go_ret
 exact ⟨rfl, rfl⟩
def marked (n : Nat) (f : Nat → Int) (j : Nat) : Int := if j < n then f j else -77
theorem marked_list (n : Nat) (f : Nat → Int) : (List.range n).map (fun i => Value.int .i64 (f i)) ++ [.int .i64 (-77), .int .i64 (-77), .int .i64 (-77), .int .i64 (-77), .int .i64 (-77), .int .i64 (-77), .int .i64 (-77), .int .i64 (-77)] = (List.range (n + 8)).map (fun j => Value.int .i64 (marked n f j)) := by
 rw [range_map_add]
 congr 1
 · apply List.map_congr_left
   intro j hj
   unfold marked
   rw [if_pos (List.mem_range.1 hj)]
 · simp [List.range_succ, marked]
   exact ⟨fun h => absurd h (by omega), fun h => absurd h (by omega), fun h => absurd h (by omega), fun h => absurd h (by omega), fun h => absurd h (by omega), fun h => absurd h (by omega), fun h => absurd h (by omega)⟩
theorem owns_cap {w : World} {base g n cap : Nat} {e : TypeId} {size : Nat} {xs : List Value} (h : w.ownsRow base e size (.slice (some ⟨g, 0, none⟩) n cap) n xs) : n ≤ cap ∧ cap ≤ maxLen := by
 obtain ⟨_, ⟨q, _⟩ | ⟨g', c', cur, q, _, _, q1, q2, _⟩⟩ := h
 · cases q
 · injection q with _ _ q'
   subst q'
   exact ⟨q1, q2⟩
set_option maxRecDepth 100000 in
set_option maxHeartbeats 400000 in
theorem roomy_any (n cap : Nat) (a : Addr) (f : Nat → Int) (w : World) (hc : ∀ j, j < n → w.cell? (a.add j) = some (.int .i64 (f j))) (hn : n * 8 ≤ 140737488351232) :
   Calls Tryz.prog 43 #[.slice (some a) n cap] w fun e w' =>
     ∃ g c, e = .returned (.slice (some ⟨g, 0, none⟩) n c) ∧ w'.ownsRow w.heap.size 3 1 (.slice (some ⟨g, 0, none⟩) (n + 8) c) (n + 8) ((List.range (n + 8)).map fun j => .int .i64 (marked n f j)) ∧ Below w.heap.size w w' := by
 obtain ⟨i0, hi, hz0, hz1, hz2⟩ := info_parts Tryz.info_int
 have Hc := hide hc
 clear hc
 have hnews : ∀ (j : Nat) (u : Value), ((List.range n).map fun i => Value.int .i64 (f i))[j]? = some u → w.cell? (a.add j) = some u := by
   intro j u hj
   have hlt : j < n := by
     have := (List.getElem?_eq_some_iff.1 hj).1
     simpa using this
   rw [Hc.out j hlt]
   simpa [hlt] using hj
 have Hnews := hide hnews
 clear hnews
 have hnil := fun w a n c n' c' => Go.Lib.run_eql_slice_nil (P := Tryz.prog) w 36 3 a n c n' c' Tryz.underlying36
 go_enter Tryz.func43, Tryz.ntmps43
 go_wp2_with (first
   | (at_builtin; refine wpList_append_own _ rfl _ _ 36 rfl w.heap.size 3 i0 (.int .i64 0) 1 8 Tryz.underlying36 hi hz0 hz1 hz2 rfl (by decide) _ 0 [] rfl (World.ownsRow_nil _ _ _ _) a n cap ((List.range n).map fun i => .int .i64 (f i)) rfl (by simp) Hnews.out (ints_one _ _) (by unfold maxLen; omega) (by omega) (Nat.le_refl _) ?_; intro v1 w1 hown1 hgrow1 _; simp only [Nat.zero_add, List.nil_append] at hown1; have hbel1 : Below w.heap.size w w1 := (Below.refl _ _).grown hgrow1 (Nat.le_refl _) (fun k hk => by cases hk); have hsz1 := hbel1.size)
   | (at_builtin; refine wpList_append_lies _ rfl _ _ _ rfl w.heap.size 3 i0 (.int .i64 0) 1 8 Tryz.underlying36 hi hz0 hz1 hz2 rfl (by omega) v1 n _ rfl (hown1.alloc _) ⟨w1.heap.size, 0, none⟩ 8 8 [.int .i64 (-77), .int .i64 (-77), .int .i64 (-77), .int .i64 (-77), .int .i64 (-77), .int .i64 (-77), .int .i64 (-77), .int .i64 (-77)] rfl rfl (World.news_of_block (cs := #[.int .i64 (-77), .int .i64 (-77), .int .i64 (-77), .int .i64 (-77), .int .i64 (-77), .int .i64 (-77), .int .i64 (-77), .int .i64 (-77)]) (t := 3) (fr := (0, 0)) (heap_alloc_new w1 _)) (by simp [Value.oneCell']) (by omega) (by unfold maxLen; omega) (by omega) (by simp; omega) (w1.heap.size + 1) (by simp) ?_; intro g cp w2 hown2 hgrow2 hat2 hlt2; obtain ⟨hcap2, hmax2⟩ := owns_cap hown2))
 go_ret
 refine ⟨g, cp, rfl, ?_, ((hbel1.alloc hsz1 _).grown hgrow2 (by simp; omega) (fun k hk => (hown1.lt k hk).1))⟩
 rw [← marked_list]; exact hown2
end Go.Proofs.YtlmflighkkgikaaGreat
namespace Go.Proofs.YtlmflighkkgikaaGreat
open Go.RowKit
attribute [local go_sem ↓] Go.wp_at_zero Go.wp_at_succ
structure Raw where
 blocks : Int
 slots : Int
 layers : Int
 heads : Int
 pairs : Int
 vocab : Int
 seed : Int
def Raw.agg (r : Raw) : Value := .agg #[.int .i64 r.blocks, .int .i64 r.slots, .int .i64 r.layers, .int .i64 r.heads, .int .i64 r.pairs, .int .i64 r.vocab, .int .i64 r.seed]
def Raw.right (r : Raw) : Prop := (1 ≤ r.blocks ∧ r.blocks ≤ 32 ∧ 1 ≤ r.slots ∧ r.slots ≤ 4 ∧ 1 ≤ r.layers ∧ r.layers ≤ 2) ∧ (1 ≤ r.heads ∧ r.heads ≤ 2 ∧ 1 ≤ r.pairs ∧ r.pairs ≤ 2 ∧ 2 ≤ r.vocab ∧ r.vocab ≤ 12)
def Raw.dec (r : Raw) : Decidable r.right := by unfold Raw.right; infer_instance
set_option maxRecDepth 100000 in
set_option maxHeartbeats 4000000 in
theorem refright_any (r : Raw) (w : World) :
   Calls Tryz.prog 18 #[r.agg] w fun e w' => e = .returned (.bool (@decide r.right r.dec)) ∧ Below w.heap.size w w' := by
 unfold Raw.agg
 go_enter Tryz.func18, Tryz.ntmps18
 go_wp2
 all_goals go_ret
 all_goals refine ⟨ret_bool ?_, (Below.refl _ _).alloc (Nat.le_refl _) _⟩
 all_goals first | (rw [decide_eq_decide]; unfold Raw.right; omega) | (symm; rw [decide_eq_false_iff_not]; unfold Raw.right; omega)
def Raw.cfg (r : Raw) : Cfg := ⟨r.blocks.toNat, r.slots.toNat, r.layers.toNat, r.heads.toNat, r.pairs.toNat, r.vocab.toNat, r.seed⟩
theorem Raw.cfg_ok {r : Raw} (h : r.right) (hs : -9223372036854775808 ≤ r.seed ∧ r.seed ≤ 9223372036854775807) : r.cfg.ok := by
 obtain ⟨⟨a, b, c, d, e, f⟩, g, h, i, j, k, l⟩ := h
 unfold Raw.cfg
 exact ⟨by simp; omega, by simp; omega, by simp; omega, by simp; omega, by simp; omega, by simp; omega, hs⟩
theorem Raw.agg_cfg {r : Raw} (h : r.right) : r.agg = .agg #[.int .i64 r.cfg.blocks, .int .i64 r.cfg.slots, .int .i64 r.cfg.layers, .int .i64 r.cfg.heads, .int .i64 r.cfg.pairs, .int .i64 r.cfg.vocab, .int .i64 r.cfg.seed] := by
 obtain ⟨⟨a, b, c, d, e, f⟩, g, h, i, j, k, l⟩ := h
 unfold Raw.agg Raw.cfg
 simp only []
 rw [Int.toNat_of_nonneg (by omega), Int.toNat_of_nonneg (by omega), Int.toNat_of_nonneg (by omega), Int.toNat_of_nonneg (by omega), Int.toNat_of_nonneg (by omega), Int.toNat_of_nonneg (by omega)]
set_option maxRecDepth 100000 in
set_option maxHeartbeats 1000000 in
theorem refnew_any (ok : Nat → Prop) (c : Cfg) (hc : c.ok) (w : World) :
   Calls Tryz.prog 19 #[.agg #[.int .i64 c.blocks, .int .i64 c.slots, .int .i64 c.layers, .int .i64 c.heads, .int .i64 c.pairs, .int .i64 c.vocab, .int .i64 c.seed]] w fun e w' =>
     ∃ Y d, e = .returned (.pointer (some ⟨Y, 0, none⟩)) ∧ w.heap.size ≤ Y ∧ RefI ok w' Y d c [] [] 0 (.slice none 0 0) (.slice none 0 0) ∧ Below w.heap.size w w' := by
 go_enter Tryz.func19, Tryz.ntmps19
 go_wp2_with fail
 refine (refmade_any c hc _).mono ?_
 rintro e W1 ⟨vW, rfl, hd, hW, hb⟩
 have hB1 : Below w.heap.size w W1 := ((Below.refl _ _).alloc (Nat.le_refl _) _).trans (hb.mono (by simp))
 have hbn : Below W1.heap.size W1 (W1.alloc (.cells #[.pointer (some ⟨w.heap.size + 1 + 1, 0, none⟩), .slice none 0 0, .slice none 0 0, .int .i64 0] 85)) := (Below.refl _ _).alloc (Nat.le_refl _) _
 have hsz := hB1.size
 go_wp2
 go_ret
 refine ⟨W1.heap.size, w.heap.size + 1 + 1, rfl, hsz, ⟨alloc_new W1 _, ⟨fun _ => undef, World.ownsRow_nil _ _ _ _, fun i hi => absurd hi (by simp)⟩, .inl ⟨rfl, rfl⟩, ?_, ⟨fun i hi => absurd hi (by simp), fun i hi => absurd hi (by simp), fun i hi => absurd hi (by simp)⟩, by simp, fun i hi => absurd hi (by simp), fun i hi => absurd hi (by simp), by simp, fun i hi => absurd hi (by simp)⟩, hB1.alloc hsz _⟩
 have hdd : RefDec W1 (w.heap.size + 1 + 1) c := ⟨vW, by simpa using hd, IntsT.of_owns hW⟩
 exact hdd.below hbn
end Go.Proofs.YtlmflighkkgikaaGreat
