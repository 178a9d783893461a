import Derived.Test.YtlmflighkkgikaaP07
import Derived.Test.YtlmflighkkgikaaP08
import Derived.Test.YtlmflighkkgikaaP09
import Derived.Test.YtlmflighkkgikaaP10

namespace Go.Proofs.Ytlmflighkkgikaa
open Go.RowKit
attribute [local go_sem ↓] Go.wp_at_zero Go.wp_at_succ
structure TailsOk (s : Nat) (L : List (Int × Key)) (nt : Nat) : Prop where
 key : ∀ x ∈ L, keyOk s x.2
 le : ∀ x ∈ L, x.2.2 ≤ nt
 same : ∀ x ∈ L, ∀ y ∈ L, x.2.2 = y.2.2 → x.2.2 ≠ 0 → x.2 = y.2
def IdleI (ok : Nat → Prop) (w : World) (v : Value) (il : List (List Nat)) : Prop :=
 (v = .slice none 0 0 ∧ il = []) ∨ ∃ (b off cap : Nat) (cur : Array Value), v = .slice (some ⟨b, off, none⟩) il.length cap ∧ w.heap[b]? = some (.cells cur 24 (0, 0)) ∧ il.length ≤ cap ∧ cap ≤ maxLen ∧ off + cap ≤ cur.size ∧
   ∀ i, i < il.length → ∃ v, cur[off + i]? = some v ∧ TokT w v (il.getD i []) ∧ okV ok v
def KeepOk (ok : Nat → Prop) (w w' : World) : Prop := ∀ b cur fr, ok b → w.heap[b]? = some (.cells cur 3 fr) → w'.heap[b]? = some (.cells cur 3 fr)
theorem KeepOk.of {ok : Nat → Prop} {w w' : World} (h : KeepT 3 w w') : KeepOk ok w w' := fun b cur fr _ hb => h b cur fr hb
theorem IdleI.stays {ok ok' : Nat → Prop} {w w' : World} {v : Value} {il : List (List Nat)} (h : IdleI ok w v il) (hb : ∀ a n c, v = .slice (some a) n c → w'.heap[a.block]? = w.heap[a.block]?) (hk : KeepOk ok w w') (hm : ∀ b, ok b → ok' b) : IdleI ok' w' v il := by
 rcases h with h | ⟨b, off, cap, cur, e, q1, q2, q3, q4, q5⟩
 · exact .inl h
 · refine .inr ⟨b, off, cap, cur, e, (hb _ _ _ e).trans q1, q2, q3, q4, fun i hi => ?_⟩
   obtain ⟨v, r1, r2, r3⟩ := q5 i hi
   exact ⟨v, r1, r2.stays r3 hk, r3.mono hm⟩
theorem IdleI.own {ok : Nat → Prop} {w : World} {v : Value} {il : List (List Nat)} (h : IdleI ok w v il) {a : Addr} {n c : Nat} (e : v = .slice (some a) n c) : ∃ cur, w.heap[a.block]? = some (.cells cur 24 (0, 0)) := by
 rcases h with ⟨h, _⟩ | ⟨b, off, cap, cur, e', q1, _⟩
 · rw [h] at e; cases e
 · rw [e'] at e; cases e; exact ⟨_, q1⟩
theorem IdleI.below {ok : Nat → Prop} {w w' : World} {v : Value} {il : List (List Nat)} (h : IdleI ok w v il) (hb : Below w.heap.size w w') : IdleI ok w' v il :=
 h.stays (fun a n c e => by obtain ⟨cur, q⟩ := h.own e; exact hb.block _ (lt_blk q)) (KeepOk.of (KeepT.of_below hb)) (fun _ h => h)
theorem IdleI.row {ok : Nat → Prop} {w : World} {v : Value} {il : List (List Nat)} (h : IdleI ok w v il) : TokRow w v il := by
 rcases h with ⟨rfl, rfl⟩ | ⟨b, off, cap, cur, rfl, q1, q2, q3, q4, q5⟩
 · exact TokRow.nil w
 · refine ⟨fun i => (cur[off + i]?).getD undef, ⟨_, cap, rfl, q2, q3, fun _ => ⟨b, off, rfl, lt_blk q1, fun j hj => ?_⟩⟩, fun i hi => ?_⟩
   · obtain ⟨v, r1, _⟩ := q5 j hj
     rw [cell_blk q1]
     show cur[off + j]? = some ((cur[off + j]?).getD undef)
     rw [r1]; rfl
   · obtain ⟨v, r1, r2, _⟩ := q5 i hi
     show TokT w ((cur[off + i]?).getD undef) _
     rw [r1]; exact r2
end Go.Proofs.Ytlmflighkkgikaa
namespace Go.Proofs.Ytlmflighkkgikaa
open Go.RowKit
theorem topTo_max (f : Nat → Int) (n : Nat) (h : 0 < n) : topTo f (n + 1) = if topTo f n < f n then f n else topTo f n := by
 by_cases e : topTo f n < f n
 · rw [topTo_hit f n h e, if_pos e]
 · rw [topTo_miss f n h (by omega), if_neg e]
set_option maxHeartbeats 400000 in
theorem max_any (n : Nat) (va : Value) (a : Nat → Int) (w : World) (ha : IntsT w va n a) (hn1 : 1 ≤ n) (hn : n ≤ 1000) :
   Calls Try.prog 84 #[va] w fun e w' => e = .returned (.int .i64 (topTo a n)) ∧ w' = w := by
 obtain ⟨aa, ca, rfl, ha1, ha3⟩ := ha.at
 obtain ⟨b1, o1, rfl, hlb1, hc1⟩ := ha3 (by omega)
 have c0 : w.cell? ⟨b1, o1, none⟩ = some (.int .i64 (a 0)) := by simpa using hc1 0 (by omega)
 have Hc1 := hide hc1
 clear hc1 ha3 ha
 go_enter Try.func84, Try.ntmps84
 go_wp2
 go_loop [3, 4] (fun s i => ∃ k : Nat, 1 ≤ k ∧ k ≤ n ∧ i = .int .i64 k ∧ s = .int .i64 (topTo a k)) (fun _ i => n - (intOf i).toNat)
 case atStart => exact ⟨1, by omega, by omega, rfl, rfl⟩
 case round =>
   obtain ⟨k, hk1, hk, rfl, rfl⟩ := hrel
   by_cases hlt : k < n
   · have c1 := Hc1.out k hlt
     have Ht := hide (topTo_max a k (by omega))
     go_wp2
     all_goals go_round
     all_goals try (case measure => simp [intOf]; omega)
     all_goals exact ⟨k + 1, by omega, by omega, by go_num, by rw [Ht.out]⟩
   · have hkr : n = k := by omega
     subst hkr
     go_wp2
     go_ret
     exact ⟨rfl, rfl⟩
theorem shareOf_le (d : Int) (h0 : 0 ≤ d) (h : d ≤ 16) : shareOf d = halved d.toNat := by
 unfold shareOf; rw [show min d.toNat 17 = d.toNat by omega]
theorem shareOf_gt (d : Int) (h : 16 < d) : shareOf d = 0 := by
 unfold shareOf; rw [show min d.toNat 17 = 17 by omega]; rfl
set_option maxHeartbeats 400000 in
theorem shares_any (n : Nat) (va : Value) (a : Nat → Int) (w : World) (ha : IntsT w va n a) (hn1 : 1 ≤ n) (hn : n ≤ 1000) (ba : ∀ j, -67076100 ≤ a j ∧ a j ≤ 67076100) :
   Calls Try.prog 90 #[va] w fun e w' => e = .returned (.slice (some ⟨w.heap.size, 0, none⟩) n n) ∧ IntsT w' (.slice (some ⟨w.heap.size, 0, none⟩) n n) n (shareAt (n - 1) a) ∧ Below w.heap.size w w' := by
 have HT := hide (show topTo a n = maxTo a (n - 1) from by obtain ⟨m, rfl⟩ : ∃ m, n = m + 1 := ⟨n - 1, by omega⟩; rfl)
 have Hmax := hide (fun t (ht : t ≤ n - 1) => maxTo_ge a (n - 1) t ht)
 have htb : -67076100 ≤ topTo a n ∧ topTo a n ≤ 67076100 := by
   rw [HT.out]
   obtain ⟨j, hj, e⟩ := maxTo_is a (n - 1)
   rw [e]; exact ba j
 obtain ⟨htb1, htb2⟩ := htb
 have hmk := run_make_row' (P := Try.prog) 24 3 (.int .i64 0) 8 Try.underlying24 Try.info_int rfl .i64 .i64 n (by omega) (by omega)
 obtain ⟨aa, ca, rfl, ha1, ha3⟩ := ha.at
 obtain ⟨b1, o1, rfl, hlb1, hc1⟩ := ha3 (by omega)
 have Hc1 := hide hc1
 clear hc1 ha3
 go_enter Try.func90, Try.ntmps90
 go_wp2_with fail
 refine Calls_use (max_any n _ a _ ha hn1 hn) ?_
 generalize topTo a n = top at HT htb1 htb2 ⊢
 go_wp2
 clear hmk
 go_loopw [15] (fun i wr => ∃ k : Nat, k ≤ n ∧ i = .int .i64 k ∧ wr.rowIs w.heap.size 3 n (fun j => .int .i64 (filled (shareAt (n - 1) a) k j)) ∧ Below w.heap.size w wr) (fun i _ => n - (intOf i).toNat)
 case atStart => exact ⟨0, Nat.zero_le _, rfl, fill_start w n _, (Below.refl _ _).alloc (Nat.le_refl _) _⟩
 case round =>
   obtain ⟨k, hk, rfl, hrow, hbel⟩ := hrel
   by_cases hlt : k < n
   · have c1 := (hbel.cell (p := ⟨b1, o1 + k, none⟩) hlb1).trans (Hc1.out k hlt)
     have c3 := hrow.cell hlt
     have c4 := hrow.frozen k
     obtain ⟨x1, x2⟩ := ba k
     have hD : 0 ≤ top - a k := by have := Hmax.out k (by omega); rw [HT.out]; omega
     have HX := hide (show shareAt (n - 1) a k = shareOf (top - a k) from by unfold shareAt; rw [HT.out])
     by_cases h16 : top - a k ≤ 16
     · go_wp2
       go_roundw
       case rel => exact ⟨k + 1, by omega, by go_num, fill_step hrow (by rw [HX.out, shareOf_le _ hD h16]; rfl), hbel.setCell (Nat.le_refl _) _⟩
       case measure => simp [intOf]; omega
     · have hz : filled (shareAt (n - 1) a) k k = 0 := by unfold filled; simp
       go_wp2
       go_roundw
       case rel =>
         refine ⟨k + 1, by omega, by go_num, hrow.congr (fun i hi => ?_), hbel⟩
         unfold filled
         by_cases e : i = k
         · subst e; rw [if_neg (by omega), if_pos (by omega), HX.out, shareOf_gt _ (by omega)]
         · by_cases h1 : i < k
           · rw [if_pos h1, if_pos (by omega)]
           · rw [if_neg h1, if_neg (by omega)]
       case measure => simp [intOf]; omega
   · have hkr : n = k := by omega
     subst hkr
     go_wp2
     go_ret
     exact ⟨rfl, fill_done hrow (by unfold maxLen; omega), hbel⟩
set_option maxRecDepth 100000 in
set_option maxHeartbeats 2000000 in
theorem hktokens_any (n v most : Nat) (vr : Value) (f : Nat → Int) (w : World) (hr : Ints w vr n f) (hv : 1 ≤ v ∧ v ≤ 40) (hm : most ≤ 40) (hf : ∀ j, j < n → -9223372036854775808 ≤ f j ∧ f j ≤ 9223372036854775807) :
   Calls Try.prog 12 #[vr, .int .i64 v, .int .i64 most] w fun e w' => ∃ r, e = .returned r ∧ w'.ownsRow w.heap.size 3 1 r (min n most) ((List.range (min n most)).map fun j => .int .i64 (pickI (f j) v)) ∧ Below w.heap.size w w' := by
 obtain ⟨i0, hi, hz0, hz1, hz2⟩ := info_parts Try.info_int
 obtain ⟨hv1, hv2⟩ := hv
 obtain ⟨aa, ca, rfl, ha1, ha2, ha3⟩ := hr
 unfold maxLen at ha2
 have hpk := fun (x : Int) (hx : -9223372036854775808 ≤ x ∧ x ≤ 9223372036854775807) (w : World) => hkpick_any x v w hx (by omega) (by omega)
 have Hpk := hide hpk
 have Hf := hide hf
 have Ha3 := hide ha3
 clear hpk hf ha3
 go_enter Try.func12, Try.ntmps12
 go_wp2
 go_loopw [7, 8] (fun o i wr => ∃ j : Nat, j ≤ min n most ∧ i = .int .i64 j ∧ wr.ownsRow w.heap.size 3 1 o j ((List.range j).map fun j => .int .i64 (pickI (f j) v)) ∧ Below w.heap.size w wr) (fun _ i _ => min n most - (intOf i).toNat)
 case atStart => exact ⟨0, Nat.zero_le _, rfl, World.ownsRow_nil _ _ _ _, Below.refl _ _⟩
 case round =>
   obtain ⟨j, hj, rfl, hown, hbel⟩ := hrel
   have hsz := hbel.size
   by_cases hjn : j < n
   · by_cases hjm : j < most
     · obtain ⟨b1, o1, rfl, hlb1, hc1⟩ := Ha3.out (by omega)
       have c1 := hc1 j hjn
       replace c1 := (hbel.cell hlb1).trans c1
       have hfj := Hf.out j hjn
       generalize hx : f j = x at c1 hfj
       have Hx := hide hx
       have Hfj := hide hfj
       have Hc1 := hide hc1
       clear hx hfj hc1
       go_wp2_with (first
         | (go_at_call 10; refine Calls_use (Hpk.out x Hfj.out _) ?_; clear Hpk)
         | (at_builtin; refine wpList_append_own _ rfl _ _ 24 rfl w.heap.size 3 i0 (.int .i64 0) 1 8 Try.underlying24 hi hz0 hz1 hz2 rfl (by decide) _ _ _ rfl (hown.alloc _) ⟨wr.heap.size, 0, none⟩ 1 1 [.int .i64 (pickI x v)] rfl rfl (one_new wr _ _) (one_int _) (by unfold maxLen; omega) (by omega) (by simp; omega) ?_; intro v1 w1 hown1 hgrow1 _))
       have hbel1 : Below w.heap.size w w1 := (hbel.alloc hsz _).grown hgrow1 (by simp; omega) (fun g hg => (hown.lt g hg).1)
       rw [← Hx.out, ← range_map_succ (fun j => Value.int .i64 (pickI (f j) v))] at hown1
       clear hown hgrow1
       go_wp2
       go_roundw
       case rel => exact ⟨j + 1, by omega, by go_num, hown1, hbel1⟩
       case measure => simp [intOf]; omega
     · have hje : j = min n most := by omega
       have Hje := hide hje
       clear hje
       go_wp2
       go_ret
       rw [← Hje.out]
       exact ⟨_, rfl, hown, hbel⟩
   · have hje : j = min n most := by omega
     have Hje := hide hje
     clear hje
     go_wp2
     go_ret
     rw [← Hje.out]
     exact ⟨_, rfl, hown, hbel⟩
end Go.Proofs.Ytlmflighkkgikaa
