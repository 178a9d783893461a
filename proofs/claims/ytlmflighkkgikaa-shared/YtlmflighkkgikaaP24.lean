import Derived.Test.YtlmflighkkgikaaP09
import Derived.Test.YtlmflighkkgikaaP10
import Derived.Test.YtlmflighkkgikaaP19
import Derived.Test.YtlmflighkkgikaaP21
import Derived.Test.YtlmflighkkgikaaP22

namespace Go.Proofs.Ytlmflighkkgikaa
open Go.RowKit
theorem shape_cells {w : World} {b : Nat} {a0 a1 a2 a3 a4 : Value} {t : TypeId} {fr : Nat × Nat} (h : w.heap[b]? = some (.cells #[a0, a1, a2, a3, a4] t fr)) :
   w.cell? ⟨b, 0, none⟩ = some a0 ∧ w.cell? ⟨b, 1, none⟩ = some a1 ∧ w.cell? ⟨b, 2, none⟩ = some a2 ∧ w.cell? ⟨b, 3, none⟩ = some a3 ∧ w.cell? ⟨b, 4, none⟩ = some a4 := by
 refine ⟨?_, ?_, ?_, ?_, ?_⟩ <;> (rw [cell_blk h]; rfl)
end Go.Proofs.Ytlmflighkkgikaa
namespace Go.Proofs.Ytlmflighkkgikaa
open Go.RowKit
attribute [local go_sem ↓] Go.wp_at_zero Go.wp_at_succ
def SlotsI (base : Nat) (ok : Nat → Prop) (w : World) (v : Value) (c : Cfg) (T : List Nat) (from' k : Nat) : Prop :=
 ∃ S : Nat → Value, w.ownsRow base 118 2 v k ((List.range (k * 2)).map S) ∧ ∀ t, t < k → S (t * 2) = .int .i64 (tkI T (from' + t)) ∧ CellI ok w (S (t * 2 + 1)) c.layers c.width (kOf c (tkN T) (from' + t)) (vOf c (tkN T) (from' + t))
def BlkI (ok : Nat → Prop) (w : World) (c : Cfg) (B : Key → Option Nat) (U : Key → Nat) (k : Key) (b : Nat) : Prop :=
 ∃ v, w.heap[b]? = some (.cells #[v, blkV (B (pred c.slots k)), .int .i64 (U k)] 87 (0, 0)) ∧ SlotsI 0 ok w v c k.1 (pred c.slots k).1.length (k.1.length - (pred c.slots k).1.length)
structure BlksI (ok : Nat → Prop) (w : World) (c : Cfg) (B : Key → Option Nat) (U : Key → Nat) : Prop where
 at' : ∀ k b, B k = some b → BlkI ok w c B U k b
 ne : ∀ k, B k ≠ none → k.1 ≠ [] ∧ keyOk c.slots k ∧ k.1.length ≤ 40 ∧ ∀ t ∈ k.1, t < c.vocab
 ahead : ∀ k, B k ≠ none → (pred c.slots k).1 ≠ [] → B (pred c.slots k) ≠ none
 inj : ∀ k k' b, B k = some b → B k' = some b → k = k'
theorem SlotsI.congr {base : Nat} {ok : Nat → Prop} {w : World} {v : Value} {c : Cfg} {T T' : List Nat} {f k : Nat} (h : SlotsI base ok w v c T f k) (e : ∀ j, j < f + k → tkN T j = tkN T' j) : SlotsI base ok w v c T' f k := by
 obtain ⟨S, h1, h2⟩ := h
 refine ⟨S, h1, fun t ht => ?_⟩
 obtain ⟨q1, q2⟩ := h2 t ht
 have e1 := kOf_congr c (f + t) (tk := tkN T) (tk' := tkN T') (fun j hj => e j (by omega))
 refine ⟨by rw [q1]; unfold tkI; rw [e (f + t) (by omega)], ?_⟩
 rw [← e1.1, ← e1.2]; exact q2
theorem Try.info_slot : (Try.prog.info? 118).map (fun i => (i.zero, i.size, i.bytes)) = some (some (.agg #[.int .i64 0, .slice none 0 0]), 2, 32) := by kernel_rfl
theorem slot_one {ok : Nat → Prop} {w : World} {c : Cfg} {T : List Nat} {f k : Nat} {S : Nat → Value} (h : ∀ t, t < k → S (t * 2) = .int .i64 (tkI T (f + t)) ∧ CellI ok w (S (t * 2 + 1)) c.layers c.width (kOf c (tkN T) (f + t)) (vOf c (tkN T) (f + t))) : ∀ u ∈ (List.range (k * 2)).map S, u.oneCell' = true := by
 intro u hu
 obtain ⟨j, hj, rfl⟩ := List.mem_map.1 hu
 have hj := List.mem_range.1 hj
 obtain ⟨q1, q2⟩ := h (j / 2) (by omega)
 rcases Nat.mod_two_eq_zero_or_one j with e | e
 · rw [show j / 2 * 2 = j by omega] at q1
   rw [q1]; rfl
 · rw [show j / 2 * 2 + 1 = j by omega] at q2
   obtain ⟨b, cap, arr, fr, ev, _⟩ := q2
   rw [ev]; rfl
theorem SlotsI.append {base : Nat} {ok : Nat → Prop} {w : World} {v : Value} {c : Cfg} {T : List Nat} {f m k : Nat} {S S' : Nat → Value} (h : w.ownsRow base 118 2 v (m + k) ((List.range (m * 2)).map S ++ (List.range (k * 2)).map S'))
   (h1 : ∀ t, t < m → S (t * 2) = .int .i64 (tkI T (f + t)) ∧ CellI ok w (S (t * 2 + 1)) c.layers c.width (kOf c (tkN T) (f + t)) (vOf c (tkN T) (f + t)))
   (h2 : ∀ t, t < k → S' (t * 2) = .int .i64 (tkI T (f + m + t)) ∧ CellI ok w (S' (t * 2 + 1)) c.layers c.width (kOf c (tkN T) (f + m + t)) (vOf c (tkN T) (f + m + t))) : SlotsI base ok w v c T f (m + k) := by
 refine ⟨fun j => if j < m * 2 then S j else S' (j - m * 2), ?_, fun t ht => ?_⟩
 · have e : (List.range ((m + k) * 2)).map (fun j => if j < m * 2 then S j else S' (j - m * 2)) = (List.range (m * 2)).map S ++ (List.range (k * 2)).map S' := by
     rw [Nat.add_mul, List.range_add, List.map_append, List.map_map]
     congr 1
     · apply List.map_congr_left
       intro j hj
       rw [if_pos (List.mem_range.1 hj)]
     · apply List.map_congr_left
       intro j hj
       simp only [Function.comp]
       rw [if_neg (by omega)]
       congr 1
       omega
   rw [e]; exact h
 · by_cases e : t < m
   · simp only [if_pos (show t * 2 < m * 2 by omega), if_pos (show t * 2 + 1 < m * 2 by omega)]
     exact h1 t e
   · simp only [if_neg (show ¬ t * 2 < m * 2 by omega), if_neg (show ¬ t * 2 + 1 < m * 2 by omega)]
     have q := h2 (t - m) (by omega)
     rw [show (t - m) * 2 = t * 2 - m * 2 by omega, show f + m + (t - m) = f + t by omega] at q
     rw [show t * 2 + 1 - m * 2 = t * 2 - m * 2 + 1 by omega]
     exact q
theorem tk_take {T : List Nat} {m j : Nat} (h : j < m) : tkN (T.take m) j = tkN T j := tkN_take T m j h
theorem CellI.below {ok : Nat → Prop} {w w' : World} {v : Value} {L m : Nat} {kf vf : Nat → Nat → Int} (h : CellI ok w v L m kf vf) (hb : Below w.heap.size w w') : CellI ok w' v L m kf vf := h.keep (KeepT.of_below hb) (KeepT.of_below hb)
theorem BlksI.below {ok : Nat → Prop} {w w' : World} {c : Cfg} {B : Key → Option Nat} {U : Key → Nat} (h : BlksI ok w c B U) (hb : Below w.heap.size w w') : BlksI ok w' c B U :=
 ⟨fun k b hk => by
   obtain ⟨v, h1, S, h2, h3⟩ := h.at' k b hk
   exact ⟨v, (hb.block b (lt_blk h1)).trans h1, S, owns_below' h2 hb, fun t ht => ⟨(h3 t ht).1, (h3 t ht).2.below hb⟩⟩, h.ne, h.ahead, h.inj⟩
set_option maxRecDepth 100000 in
set_option maxHeartbeats 2000000 in
theorem all_any (ok : Nat → Prop) (c : Cfg) (hc : c.ok) (B : Key → Option Nat) (U : Key → Nat) (n : Nat) : ∀ (k : Key) (w : World), k.1.length ≤ n → BlksI ok w c B U → (k.1 = [] → B k = none) → (k.1 ≠ [] → B k ≠ none) →
   Calls Try.prog 54 #[blkV (B k)] w fun e w' => ∃ r, e = .returned r ∧ SlotsI w.heap.size ok w' r c k.1 0 k.1.length ∧ Below w.heap.size w w' := by
 obtain ⟨i0, hi, hz0, hz1, hz2⟩ := info_parts Try.info_slot
 obtain ⟨s1, s2⟩ := hc.slots
 induction n with
 | zero =>
   intro k w hk h h1 h2
   have e : k.1 = [] := List.length_eq_zero_iff.1 (by omega)
   rw [h1 e, e]
   unfold blkV
   go_enter Try.func54, Try.ntmps54
   go_wp2
   go_ret
   exact ⟨_, rfl, ⟨fun _ => undef, World.ownsRow_nil _ _ _ _, fun t ht => absurd ht (by simp)⟩, Below.refl _ _⟩
 | succ n ih =>
   intro k w hk h h1 h2
   by_cases e : k.1 = []
   · rw [h1 e, e]
     unfold blkV
     go_enter Try.func54, Try.ntmps54
     go_wp2
     go_ret
     exact ⟨_, rfl, ⟨fun _ => undef, World.ownsRow_nil _ _ _ _, fun t ht => absurd ht (by simp)⟩, Below.refl _ _⟩
   · have hne := h2 e
     cases hB : B k with
     | none => exact absurd hB hne
     | some b =>
       obtain ⟨v, hb, S, hS1, hS2⟩ := h.at' k b hB
       obtain ⟨p1, p2⟩ := pred_len c.slots k s1 e
       obtain ⟨k1, k2, k3, _⟩ := h.ne k hne
       have hP := h.ahead k hne
       have hih := ih (pred c.slots k) w.drew (by omega) (h.below ((Below.refl _ _).drew)) (fun e' => by
         cases hh : B (pred c.slots k) with
         | none => rfl
         | some b' => exact absurd e' (h.ne _ (by rw [hh]; simp)).1) hP
       obtain ⟨m, em⟩ : ∃ m, m = (pred c.slots k).1.length := ⟨_, rfl⟩
       obtain ⟨q, eq⟩ : ∃ q, q = k.1.length - (pred c.slots k).1.length := ⟨_, rfl⟩
       rw [← eq] at hS1 hS2
       rw [← em] at hS2 hih p1 p2
       have hmq : k.1.length = m + q := by omega
       have hq0 : 0 < q := by omega
       have htk : ∀ j, j < m → tkN (pred c.slots k).1 j = tkN k.1 j := fun j hj => tk_take (by omega)
       have c0 : w.cell? ⟨b, 0, none⟩ = some v := by rw [cell_blk hb]; rfl
       have c1 : w.cell? ⟨b, 1, none⟩ = some (blkV (B (pred c.slots k))) := by rw [cell_blk hb]; rfl
       have hbl := lt_blk hb
       obtain ⟨sb, sc, ev, hsb⟩ : ∃ sb sc, v = .slice (some ⟨sb, 0, none⟩) q sc ∧ sb < w.heap.size := by
         obtain ⟨_, ⟨_, q2⟩ | ⟨g, cap, cur, q1, _, hg, _⟩⟩ := hS1
         · omega
         · exact ⟨g, cap, q1, lt_blk hg⟩
       subst ev
       have Hih := hide hih
       have HS2 := hide hS2
       have Htk := hide htk
       have Hcell := hide hS1
       have Hmq := hide hmq
       have hmb : m + q ≤ 40 := by omega
       clear hih hS2 htk hS1 hP h2 h1 em eq p1 p2 hmq k1 k2 k3 hk e hne hB h
       generalize B (pred c.slots k) = pv at c1 Hih hb
       unfold blkV
       go_enter Try.func54, Try.ntmps54
       go_wp2
       go_region_held3 (fun w' => w'.cell? ⟨b, 0, none⟩ = some (.slice (some ⟨sb, 0, none⟩) q sc) ∧ w'.cell? ⟨b, 1, none⟩ = some (blkV pv))
         (first | (exact ⟨z0, z1⟩) | go_keep)
         (first
           | (go_at_call 54; refine Hih.out.mono ?_; rintro e w1 ⟨r, rfl, ⟨S1, hr1, hr2⟩, hb1⟩; obtain ⟨ar, cr, er⟩ := owns_form hr1; subst er; replace hb1 : Below w.heap.size w w1 := ((Below.refl _ _).drew).trans hb1; have z0 := (hb1.cell (p := ⟨b, 0, none⟩) hbl).trans c0; have z1 := (hb1.cell (p := ⟨b, 1, none⟩) hbl).trans c1)
           | ((refine step_append_lies _ (by rfl) _ _ _ (by rfl) w.heap.size 118 i0 _ 2 32 Try.underlying85 hi hz0 hz1 hz2 rfl (by omega) (.slice ar m cr) m _ (by rfl) hr1 ⟨sb, 0, none⟩ q sc ((List.range (q * 2)).map S) (by rfl) (by simp) ((owns_below' Hcell.out hb1).cells (g := sb) rfl) (slot_one HS2.out) hq0 (by unfold maxLen; omega) (by omega) hb1.size _ rfl ?_); intro gg cap w2 hown2 hgrow hat hlt2; have neb := owns_ne hr1 ((hb1.block b hbl).trans hb) (by decide); have z0 := hgrow.cell ((hb1.cell (p := ⟨b, 0, none⟩) hbl).trans c0) neb; have z1 := hgrow.cell ((hb1.cell (p := ⟨b, 1, none⟩) hbl).trans c1) neb))
       go_wp2
       go_ret
       have hb2 : Below w.heap.size w w2 := hb1.grown hgrow hb1.size (fun g hg => (hr1.lt g hg).1)
       have kk : ∀ e : TypeId, e ≠ 118 → KeepT e w1 w2 := fun e he => KeepT.of_grown hr1 hgrow he
       refine ⟨_, rfl, ?_, hb2⟩
       rw [Hmq.out]
       refine SlotsI.append hown2 (fun t ht => ?_) (fun t ht => ?_)
       · obtain ⟨q1, q2⟩ := hr2 t ht
         have e1 := kOf_congr c (0 + t) (tk := tkN (pred c.slots k).1) (tk' := tkN k.1) (fun j hj => Htk.out j (by omega))
         refine ⟨by rw [q1]; unfold tkI; rw [Htk.out (0 + t) (by omega)], ?_⟩
         rw [← e1.1, ← e1.2]
         exact q2.keep (kk _ (by decide)) (kk _ (by decide))
       · obtain ⟨q1, q2⟩ := HS2.out t ht
         rw [Nat.zero_add]
         exact ⟨q1, q2.below hb2⟩
end Go.Proofs.Ytlmflighkkgikaa
