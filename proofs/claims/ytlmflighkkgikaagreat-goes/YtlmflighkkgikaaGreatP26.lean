import Derived.BigQuiet
import Derived.Deep.QuietTactic
import Derived.Test.YtlmflighkkgikaaGreatP17
import Derived.Test.YtlmflighkkgikaaGreatP23
import Derived.Test.YtlmflighkkgikaaGreatP25

namespace Go.Proofs.YtlmflighkkgikaaGreat
open Go.RowKit
attribute [local go_sem ↓] Go.wp_at_zero Go.wp_at_succ
def idleN (s : Nat) (U : Key → Nat) (k : Key) : Nat := (chain s k).countP (fun x => decide (U x = 0))
theorem chain_len (s : Nat) (k : Key) : (chain s k).length = (k.1.length + s - 1) / s := by unfold chain; simp
theorem idleN_step (s : Nat) (U : Key → Nat) (k : Key) (hs : 1 ≤ s) (hk : keyOk s k) (hne : k.1 ≠ []) : idleN s U k = idleN s U (pred s k) + if U k = 0 then 1 else 0 := by
 unfold idleN
 rw [chain_step s k hs hk hne, List.countP_append, List.countP_singleton]
 by_cases e : U k = 0 <;> simp [e]
theorem idleN_nil (s : Nat) (U : Key → Nat) (k : Key) (hs : 1 ≤ s) (e : k.1 = []) : idleN s U k = 0 := by unfold idleN; rw [chain_nil s k hs e]; rfl
theorem idleN_le (s : Nat) (U : Key → Nat) (k : Key) (hs : 1 ≤ s) : idleN s U k ≤ k.1.length := by
 have h1 := List.countP_le_length (p := fun x => decide (U x = 0)) (l := chain s k)
 rw [chain_len] at h1
 have h2 : (k.1.length + s - 1) / s ≤ k.1.length := by
   by_cases e : k.1.length = 0
   · rw [e, Nat.div_eq_of_lt (by omega)]
     omega
   · refine Nat.div_le_of_le_mul ?_
     have : s + k.1.length ≤ s * k.1.length + 1 := by
       obtain ⟨a, rfl⟩ : ∃ a, s = a + 1 := ⟨s - 1, by omega⟩
       obtain ⟨b, hb⟩ : ∃ b, k.1.length = b + 1 := ⟨k.1.length - 1, by omega⟩
       rw [hb, Nat.add_mul, Nat.mul_add]
       omega
     omega
 unfold idleN
 omega
set_option maxRecDepth 100000 in
set_option maxHeartbeats 1000000 in
theorem idle_any (ok : Nat → Prop) (c : Cfg) (hc : c.ok) (B : Key → Option Nat) (U : Key → Nat) (k : Key) (w : World) (h : SeqAt ok w c B U k) (hU : ∀ x, U x ≤ 1000) :
   Calls Tryz.prog 67 #[blkV (B k)] w fun e w' => e = .returned (.int .i64 (idleN c.slots U k)) ∧ w' = w := by
 obtain ⟨s1, s2⟩ := hc.slots
 have hlen := h.len
 have hle := idleN_le c.slots U k s1
 go_enter Tryz.func67, Tryz.ntmps67
 go_wp2
 go_loop [0, 3] (fun v n => ∃ (j : Key) (m : Nat), v = blkV (B j) ∧ Hid (j.1 = [] → B j = none) ∧ Hid (j.1 ≠ [] → B j ≠ none) ∧ n = .int .i64 m ∧ Hid (m + idleN c.slots U j = idleN c.slots U k) ∧ m ≤ idleN c.slots U k) (fun v _ => keyLen B v)
 case atStart => exact ⟨k, 0, rfl, h.nil, h.here, rfl, Nat.zero_add _, Nat.zero_le _⟩
 case round =>
   obtain ⟨j, m, rfl, Hj1, Hj2, rfl, Hm, hm⟩ := hrel
   rcases none_or (B j) with hB | ⟨b, hB⟩
   · have ev : blkV (B j) = .pointer none := by rw [hB]; rfl
     rw [ev]
     have hj : j.1 = [] := by
       by_cases e : j.1 = []
       · exact e
       · exact absurd hB (Hj2.out e)
     clear ev
     go_wp2
     go_ret
     have e1 := Hm.out
     rw [idleN_nil c.slots U j s1 hj] at e1
     exact ⟨ret_int (by omega), rfl⟩
   · have hBn : B j ≠ none := by rw [hB]; simp
     obtain ⟨jn, jok, jlen, _⟩ := h.blks.ne j hBn
     obtain ⟨x, hx, _⟩ := h.blks.at' j b hB
     have c1 : w.cell? ⟨b, 1, none⟩ = some (blkV (B (pred c.slots j))) := by rw [cell_blk hx]; rfl
     have c2 : w.cell? ⟨b, 2, none⟩ = some (.int .i64 (U j)) := by rw [cell_blk hx]; rfl
     have hstep := idleN_step c.slots U j s1 jok jn
     have Hstep := hide hstep
     have hUj := hU j
     have ev : blkV (B j) = .pointer (some ⟨b, 0, none⟩) := by rw [hB]; rfl
     rw [ev]
     have hpn : (pred c.slots j).1 = [] → B (pred c.slots j) = none := fun e => by
       rcases none_or (B (pred c.slots j)) with hh | ⟨b', hh⟩
       · exact hh
       · exact absurd e (h.blks.ne _ (by rw [hh]; simp)).1
     have Hpn := hide hpn
     have Hpa := hide (h.blks.ahead j hBn)
     have hmeas : keyLen B (blkV (B (pred c.slots j))) < keyLen B (.pointer (some ⟨b, 0, none⟩)) := by
       have e1 : keyLen B (.pointer (some ⟨b, 0, none⟩)) = j.1.length + 1 := by
         have := keyLen_some h.blks.inj (k := j) hBn
         rw [hB] at this
         exact this
       rw [e1]
       rcases none_or (B (pred c.slots j)) with hh | ⟨b', hh⟩
       · rw [keyLen_none hh]; omega
       · rw [keyLen_some h.blks.inj (by rw [hh]; simp)]
         have := (pred_len c.slots j s1 jn).2
         omega
     have Hmeas := hide hmeas
     clear hx hstep ev hpn hmeas
     by_cases hz : U j = 0
     · rw [hz] at c2
       have hlt : m + 1 ≤ idleN c.slots U k := by
         have a1 := Hm.out
         have a2 := Hstep.out
         rw [if_pos hz] at a2
         omega
       go_wp2
       go_round
       case rel =>
         refine ⟨pred c.slots j, m + 1, rfl, Hpn.out, Hpa.out, by go_num, ?_, hlt⟩
         show _ = _
         have a1 := Hm.out
         have a2 := Hstep.out
         rw [if_pos hz] at a2
         omega
       case measure => exact Hmeas.out
     · have hz2 : ((U j : Int) == 0) = false := by rw [beq_eq_false_iff_ne]; omega
       have hz3 : decide (U j = 0) = false := by simpa using hz
       go_wp2
       go_round
       case rel =>
         refine ⟨pred c.slots j, m, rfl, Hpn.out, Hpa.out, rfl, ?_, hm⟩
         show _ = _
         have a1 := Hm.out
         have a2 := Hstep.out
         rw [if_neg hz] at a2
         omega
       case measure => exact Hmeas.out
theorem room_any (ok : Nat → Prop) (c : Cfg) (hc : c.ok) (B : Key → Option Nat) (U : Key → Nat) (k : Key) (w : World) (h : SeqAt ok w c B U k) :
   Calls Tryz.prog 74 #[blkV (B k)] w fun e w' => e = .returned (.int .i64 (40 - (k.1.length : Int))) ∧ Below w.heap.size w w' := by
 have hlen := h.len
 have hall := seqall_any ok c hc B U k w h
 have Hall := hide hall
 clear hall h
 generalize B k = pv at Hall ⊢
 go_enter Tryz.func74, Tryz.ntmps74
 go_wp2_with fail
 refine Hall.out.mono ?_
 rintro e W ⟨r, rfl, ⟨S, hr1, hr2⟩, hb⟩
 obtain ⟨ar, cr, er⟩ := owns_form hr1
 subst er
 clear hr1 hr2 Hall
 go_wp2
 go_ret
 exact ⟨rfl, hb⟩
def nbOf (s n : Nat) : Nat := (n + s - 1) / s
theorem nbOf_lt {s n k : Nat} (hs : 1 ≤ s) : k < nbOf s n ↔ k * s < n := by
 unfold nbOf
 rw [Nat.lt_div_iff_mul_lt (by omega)]
 omega
theorem nbOf_le {s n : Nat} (hs : 1 ≤ s) : nbOf s n ≤ n := by
 refine Nat.le_of_not_lt (fun h => ?_)
 have h1 := (nbOf_lt (n := n) (k := n) hs).1 h
 have : n * 1 ≤ n * s := Nat.mul_le_mul_left _ hs
 omega
section
variable {F ok : Nat → Prop} {w w' : World} {g : Parts} {c : Cfg} {B : Key → Option Nat} {U : Key → Nat} {V : List Nat → Option Nat} {il : List (List Nat)} {free : List Nat} {vI vF : Value} {N : List Nat → Option (Nat × Nat)} {Mm : List Nat → Option Nat}
set_option maxRecDepth 100000 in
set_option maxHeartbeats 1000000 in
theorem LowX.blocksof_any (h : LowX F ok w g c B U V il free vI vF N Mm) (hc : c.ok) (n : Nat) (hn : n ≤ 1000) :
   Calls Tryz.prog 90 #[.pointer (some ⟨g.X, 0, none⟩), .int .i64 n] w fun e w' => e = .returned (.int .i64 (nbOf c.slots n)) ∧ ∃ q, w' = w.drewN q := by
 obtain ⟨arr, o0, o1, o2, o3, o4, o5, o6, o7, o8⟩ := h.obj
 obtain ⟨s1, s2⟩ := hc.slots
 have c1 : w.cell? ⟨g.X, 1, none⟩ = some (.int .i64 c.slots) := by rw [cell_blk o0]; exact o2
 have e1 : ((n : Int) + c.slots - 1).tdiv c.slots = (nbOf c.slots n : Int) := by
   unfold nbOf
   rw [show (n : Int) + c.slots - 1 = ((n + c.slots - 1 : Nat) : Int) by omega]
   rfl
 have hw1 : IntKind.i64.wrap ((n : Int) + c.slots) = (n : Int) + c.slots := wrap_in (by omega) (by omega)
 have hw2 : IntKind.i64.wrap ((n : Int) + c.slots - 1) = (n : Int) + c.slots - 1 := wrap_in (by omega) (by omega)
 have hle := nbOf_le (s := c.slots) (n := n) s1
 have hne : ¬ ((c.slots : Int) = 0) := by omega
 have He1 := hide e1
 clear o0 o1 o2 o3 o4 o5 o6 o7 o8 h e1
 go_enter Tryz.func90, Tryz.ntmps90
 go_wp2
 go_quiet (fail)
 go_wp2
 go_ret
 refine ⟨ret_int ?_, _, rfl⟩
 have := He1.out
 rw [Int.tdiv_eq_ediv_of_nonneg (by omega)] at this
 exact this
def ownTail (U : Key → Nat) (k : Key) : Nat := if k.1 ≠ [] ∧ k.2 ≠ 0 ∧ U k = 1 then 1 else 0
set_option maxRecDepth 100000 in
set_option maxHeartbeats 2000000 in
theorem LowX.anew_any (h : LowX F ok w g c B U V il free vI vF N Mm) (hc : c.ok) (k f : Key) (n : Nat) (hk : SeqAt ok w c B U k) (hf : SeqAt ok w c B U f) (hle : f.1.length ≤ n) (hn : n ≤ 1000) (hU : ∀ x, U x ≤ 1000) :
   Calls Tryz.prog 66 #[.pointer (some ⟨g.X, 0, none⟩), blkV (B k), blkV (B f), .int .i64 n] w fun e w' => e = .returned (.int .i64 ((nbOf c.slots (n - f.1.length) : Int) - ownTail U k)) ∧ Below w.heap.size w w' := by
 obtain ⟨s1, s2⟩ := hc.slots
 have hall := seqall_any ok c hc B U f w hf
 have Hall := hide hall
 obtain ⟨vf, hvf⟩ : ∃ vf, vf = blkV (B f) := ⟨_, rfl⟩
 rw [← hvf] at Hall ⊢
 have hnb := nbOf_le (s := c.slots) (n := n - f.1.length) s1
 clear hall hvf hf
 by_cases hk0 : k.1 = []
 · have ev : blkV (B k) = .pointer none := by rw [hk.nil hk0]; rfl
   have ho : ownTail U k = 0 := by unfold ownTail; rw [if_neg (fun q => q.1 hk0)]
   rw [ev, ho]
   go_enter Tryz.func66, Tryz.ntmps66
   go_wp2_with fail
   refine Hall.out.mono ?_
   rintro e W ⟨r, rfl, ⟨S, hr1, hr2⟩, hb⟩
   obtain ⟨ar, cr, er⟩ := owns_form hr1
   subst er
   have hbo := (h.below hb).blocksof_any hc (n - f.1.length) (by omega)
   rw [show ((n - f.1.length : Nat) : Int) = (n : Int) - f.1.length by omega] at hbo
   have Hbo := hide hbo
   clear hr1 hr2 Hall hbo
   go_wp2_with fail
   refine Hbo.out.mono ?_
   rintro e W2 ⟨rfl, q, hq⟩
   have hb2 : Below w.heap.size w W2 := by rw [hq]; exact ⟨hb.os, hb.tape, hb.output, hb.size, hb.block⟩
   clear hq Hbo
   go_wp2
   go_ret
   exact ⟨rfl, hb2⟩
 · obtain ⟨b, hB⟩ := some_of_ne (hk.here hk0)
   have ev : blkV (B k) = .pointer (some ⟨b, 0, none⟩) := by rw [hB]; rfl
   rw [ev]
   have hUk := hU k
   go_enter Tryz.func66, Tryz.ntmps66
   go_wp2_with fail
   refine Hall.out.mono ?_
   rintro e W ⟨r, rfl, ⟨S, hr1, hr2⟩, hb⟩
   obtain ⟨ar, cr, er⟩ := owns_form hr1
   subst er
   have hbo := (h.below hb).blocksof_any hc (n - f.1.length) (by omega)
   rw [show ((n - f.1.length : Nat) : Int) = (n : Int) - f.1.length by omega] at hbo
   have Hbo := hide hbo
   clear hr1 hr2 Hall hbo
   go_wp2_with fail
   refine Hbo.out.mono ?_
   rintro e W2 ⟨rfl, q, hq⟩
   have hb2 : Below w.heap.size w W2 := by rw [hq]; exact ⟨hb.os, hb.tape, hb.output, hb.size, hb.block⟩
   have hwh := (h.below hb2).iswhole_any hc k b hB
   obtain ⟨x, hx, _⟩ := (h.below hb2).blk hB
   have c2 : W2.cell? ⟨b, 2, none⟩ = some (.int .i64 (U k)) := by rw [cell_blk hx]; rfl
   have Hwh := hide hwh
   clear hq Hbo hwh hx hb
   go_wp2_with fail
   refine Hwh.out.mono ?_
   rintro e W3 ⟨rfl, q3, hq3⟩
   have hb3 : Below w.heap.size w W3 := by rw [hq3]; exact ⟨hb2.os, hb2.tape, hb2.output, hb2.size, hb2.block⟩
   have c3 : W3.cell? ⟨b, 2, none⟩ = some (.int .i64 (U k)) := by rw [hq3]; exact c2
   clear hq3 Hwh c2 hb2
   by_cases hk2 : k.2 = 0
   · have ho : ownTail U k = 0 := by unfold ownTail; rw [if_neg (fun q => q.2.1 hk2)]
     have Ho := hide ho
     clear ho
     have hd : decide (k.2 = 0) = true := by simpa using hk2
     rw [hd]
     clear hd
     go_wp2
     go_ret
     exact ⟨ret_int (by rw [Ho.out]; omega), hb3⟩
   · have hd : decide (k.2 = 0) = false := by simpa using hk2
     rw [hd]
     by_cases hu : U k = 1
     · have ho : ownTail U k = 1 := by unfold ownTail; rw [if_pos ⟨hk0, hk2, hu⟩]
       have Ho := hide ho
       clear ho hd
       rw [hu] at c3
       go_wp2
       go_ret
       exact ⟨ret_int (by rw [Ho.out]; omega), hb3⟩
     · have ho : ownTail U k = 0 := by unfold ownTail; rw [if_neg (fun q => hu q.2.2)]
       have Ho := hide ho
       clear ho hd
       have hz2 : ((U k : Int) == 1) = false := by rw [beq_eq_false_iff_ne]; omega
       have hz3 : decide (U k = 1) = false := by simpa using hu
       go_wp2
       go_ret
       exact ⟨ret_int (by rw [Ho.out]; omega), hb3⟩
end
theorem argTo_step (f : Nat → Int) (k : Nat) : argTo f (k + 1 - 1) = if f (argTo f (k - 1)) < f k then k else argTo f (k - 1) := by
 cases k with
 | zero => simp [argTo]
 | succ k => rfl
set_option maxRecDepth 100000 in
set_option maxHeartbeats 2000000 in
theorem refnext_any (c : Cfg) (hc : c.ok) (d n : Nat) (vt : Value) (tk : Nat → Nat) (w : World) (hd : RefDec w d c) (ht : IntsT w vt n (fun j => (tk j : Int))) (htk : ∀ j, j < n → tk j < c.vocab) (hn0 : 0 < n) (hn : n ≤ 100) :
   Calls Tryz.prog 76 #[.pointer (some ⟨d, 0, none⟩), vt] w fun e w' => e = .returned (.int .i64 (nextOf c (xIn c tk (n - 1) c.layers))) ∧ Below w.heap.size w w' := by
 obtain ⟨d1, d2⟩ := hc.vocab
 have hth := refthrough_any c hc d n vt tk w hd ht htk hn
 have Hth := hide hth
 have Hd := hide hd
 clear hth ht hd
 go_enter Tryz.func76, Tryz.ntmps76
 go_wp2_with fail
 refine Hth.out.mono ?_
 rintro e w1 ⟨s, bK, bV, vX, rv, xs, rfl, hseen, hX, hb1⟩
 have hlo := reflogits_any c hc d s w w1 vX _ Hd.out hb1 (lt_blk hseen.seen) (by rw [cell_blk hseen.seen]; rfl) (hX hn0) (fun j => xIn_bd _ _ _ _ _)
 have Hlo := hide hlo
 clear hlo hseen hX Hth
 go_wp2_with fail
 refine Hlo.out.mono ?_
 rintro e w2 ⟨r, rfl, hr, hb2⟩
 have hB := hb1.trans (hb2.mono hb1.size)
 obtain ⟨f, ef⟩ : ∃ f, f = logitsOf c (xIn c tk (n - 1) c.layers) := ⟨_, rfl⟩
 have Hef : Hid (nextOf c (xIn c tk (n - 1) c.layers) = argTo f (c.vocab - 1)) := by show _ = _; rw [ef]; rfl
 rw [← ef] at hr
 obtain ⟨a, cp, rfl, h1, h2, h3⟩ := hr.ints
 obtain ⟨b, off, rfl, hbl, hcell⟩ := h3 (by omega)
 have Hc := hide hcell
 unfold maxLen at h2
 clear hcell h3 hr ef Hlo hb2
 go_wp2
 go_loopw [6, 7] (fun bst i wr => ∃ k : Nat, k ≤ c.vocab ∧ i = .int .i64 k ∧ bst = .int .i64 (argTo f (k - 1)) ∧ ∃ q, wr = w2.drewN q) (fun _ i _ => c.vocab - (intOf i).toNat)
 case atStart => exact ⟨0, Nat.zero_le _, rfl, rfl, 0, rfl⟩
 case round =>
   obtain ⟨k, hk, rfl, rfl, q, rfl⟩ := hrel
   have hble := argTo_le f (k - 1)
   by_cases hlt : k < c.vocab
   · have Hnx := hide (argTo_step f k)
     obtain ⟨m, em⟩ : ∃ m, m = argTo f (k - 1) := ⟨_, rfl⟩
     rw [← em] at hble Hnx ⊢
     have hm : m < c.vocab := by omega
     have ck := Hc.out k hlt
     have cm := Hc.out m hm
     clear em
     by_cases hgt : f m < f k
     · rw [if_pos hgt] at Hnx
       generalize f k = x at ck hgt
       generalize f m = y at cm hgt
       have hd1 : decide (y < x) = true := by simpa using hgt
       go_wp2
       go_quiet (fail)
       go_wp2
       go_roundw
       case rel => exact ⟨k + 1, by omega, by go_num, by rw [Hnx.out], _, rfl⟩
       case measure => simp [intOf]; omega
     · rw [if_neg hgt] at Hnx
       generalize f k = x at ck hgt
       generalize f m = y at cm hgt
       have hd1 : decide (y < x) = false := by simpa using hgt
       go_wp2
       go_quiet (fail)
       go_wp2
       go_roundw
       case rel => exact ⟨k + 1, by omega, by go_num, by rw [Hnx.out], _, rfl⟩
       case measure => simp [intOf]; omega
   · have hke : k = c.vocab := by omega
     have Hfin : Hid (nextOf c (xIn c tk (n - 1) c.layers) = argTo f (k - 1)) := by show _ = _; rw [hke]; exact Hef.out
     clear hke
     go_wp2
     go_ret
     exact ⟨by rw [Hfin.out]; rfl, below_drewN hB q⟩
end Go.Proofs.YtlmflighkkgikaaGreat
namespace Go.Proofs.YtlmflighkkgikaaGreat
open Go.RowKit
theorem CellI.mems {ok : Nat → Prop} {w : World} {v : Value} {L m : Nat} {kf vf : Nat → Nat → Int} (h : CellI ok w v L m kf vf) : Mems w v L m kf vf := by
 obtain ⟨b, cap, arr, fr, e, h1, h2, h3, h4⟩ := h
 refine ⟨_, cap, e, h1, h2, fun _ => ⟨b, 0, rfl, lt_blk h3, fun t ht => ?_⟩⟩
 obtain ⟨vk, vv, q1, q2, q3, q4, _, _⟩ := h4 t ht
 exact ⟨vk, vv, by rw [cell_blk h3]; simpa using q1, by rw [cell_blk h3]; simpa using q2, q3, q4⟩
theorem CellsI.below {base : Nat} {ok : Nat → Prop} {w w' : World} {v : Value} {c : Cfg} {T : List Nat} {n : Nat} (h : CellsI base ok w v c T n) (hb : Below w.heap.size w w') : CellsI base ok w' v c T n := by
 obtain ⟨xs, h1, h2⟩ := h
 exact ⟨xs, owns_below' h1 hb, fun t ht => (h2 t ht).keep (KeepT.of_below hb) (KeepT.of_below hb)⟩
theorem CellsI.past {base : Nat} {ok : Nat → Prop} {w : World} {a : Option Addr} {n cap p : Nat} {c : Cfg} {T : List Nat} (h : CellsI base ok w (.slice a n cap) c T n) (hp : p ≤ n) : Past w (.slice a p cap) p c.layers c.width (memOf c (tkN T) p).1 (memOf c (tkN T) p).2 := by
 obtain ⟨xs, h1, h2⟩ := h
 refine ⟨xs, ?_, fun t ht => ?_⟩
 · obtain ⟨a', c', e, q1, q2, q3⟩ := Row.of_owns h1
   injection e with e1 _ e3
   subst e1 e3
   refine ⟨a, cap, rfl, by omega, q2, fun h0 => ?_⟩
   obtain ⟨b, off, e, hb, hc⟩ := q3 (by omega)
   exact ⟨b, off, e, hb, fun j hj => hc j (by omega)⟩
 · obtain ⟨m1, m2⟩ := memOf_at c (tkN T) p t ht
   rw [m1, m2]
   exact (h2 t (by omega)).mems
theorem owns_keepT {w w' : World} {base : Nat} {e : TypeId} {size : Nat} {v : Value} {n : Nat} {xs : List Value} (h : w.ownsRow base e size v n xs) (hk : KeepT e w w') : w'.ownsRow base e size v n xs := by
 obtain ⟨h1, h2 | ⟨g, cap, cur, e', hg, hh, rest⟩⟩ := h
 · exact ⟨h1, .inl h2⟩
 · exact ⟨h1, .inr ⟨g, cap, cur, e', hg, hk _ _ _ hh, rest⟩⟩
theorem CellsI.keepT {base : Nat} {ok : Nat → Prop} {w w' : World} {v : Value} {c : Cfg} {T : List Nat} {n : Nat} (h : CellsI base ok w v c T n) (h1 : KeepT 131 w w') (h2 : KeepT 155 w w') (h3 : KeepT 3 w w') : CellsI base ok w' v c T n := by
 obtain ⟨xs, a, b⟩ := h
 exact ⟨xs, owns_keepT a h1, fun t ht => (b t ht).keep h2 h3⟩
theorem CellsI.form {base : Nat} {ok : Nat → Prop} {w : World} {v : Value} {c : Cfg} {T : List Nat} {n : Nat} (h : CellsI base ok w v c T n) : ∃ a cap, v = .slice a n cap := by
 obtain ⟨xs, a, b⟩ := h
 exact owns_form a
theorem CellsI.congr {base : Nat} {ok : Nat → Prop} {w : World} {v : Value} {c : Cfg} {T T' : List Nat} {n : Nat} (h : CellsI base ok w v c T n) (e : ∀ j, j < n → tkN T j = tkN T' j) : CellsI base ok w v c T' n := by
 obtain ⟨xs, a, b⟩ := h
 refine ⟨xs, a, fun t ht => ?_⟩
 obtain ⟨e1, e2⟩ := kOf_congr c t (tk := tkN T) (tk' := tkN T') (fun j hj => e j (by omega))
 rw [← e1, ← e2]; exact b t ht
theorem CellsI.okmono {base : Nat} {ok ok' : Nat → Prop} {w : World} {v : Value} {c : Cfg} {T : List Nat} {n : Nat} (h : CellsI base ok w v c T n) (hm : ∀ b, ok b → ok' b) : CellsI base ok' w v c T n := by
 obtain ⟨xs, a, b⟩ := h
 exact ⟨xs, a, fun t ht => (b t ht).mono hm⟩
theorem CellsI.cell {base : Nat} {ok : Nat → Prop} {w : World} {a : Option Addr} {cap : Nat} {c : Cfg} {T : List Nat} {n : Nat} (h : CellsI base ok w (.slice a n cap) c T n) (j : Nat) (hj : j < n) : ∃ g cv, a = some ⟨g, 0, none⟩ ∧ g < w.heap.size ∧ w.cell? ⟨g, j, none⟩ = some cv ∧ CellI ok w cv c.layers c.width (kOf c (tkN T) j) (vOf c (tkN T) j) := by
 obtain ⟨xs, h1, h2⟩ := h
 obtain ⟨_, ⟨_, q⟩ | ⟨g, cap', cur, q1, _, hg, _⟩⟩ := id h1
 · omega
 · injection q1 with q1 _ _
   subst q1
   exact ⟨g, xs j, rfl, lt_blk hg, owns_at h1 rfl (by simp [hj]), h2 j hj⟩
theorem CellsI.cap {base : Nat} {ok : Nat → Prop} {w : World} {a : Option Addr} {cap : Nat} {c : Cfg} {T : List Nat} {n : Nat} (h : CellsI base ok w (.slice a n cap) c T n) : n ≤ cap ∧ cap ≤ maxLen := by
 obtain ⟨xs, ⟨_, ⟨q1, q2⟩ | ⟨g, cap', cur, q1, _, hg, q3, q4, _⟩⟩, _⟩ := h
 · injection q1 with _ _ q1; subst q1; exact ⟨by omega, by simp [maxLen]⟩
 · injection q1 with _ _ q1; subst q1; exact ⟨q3, q4⟩
theorem run_min (P : Program) (w : World) (ts : Array TypeId) (ty : TypeId) (a b e : Int) (h : (a ≤ b ∧ e = a) ∨ (b < a ∧ e = b)) : (Builtin.min_ ts ty #[.int .i64 a, .int .i64 b]).run P w = .ok (.int .i64 e) w := by
 rcases h with ⟨h, rfl⟩ | ⟨h, rfl⟩
 · simp [Builtin.min_, Builtin.min2, go_sem, show ¬ b < e by omega]
 · simp [Builtin.min_, Builtin.min2, go_sem, h]
theorem SlotsI.push {base : Nat} {ok : Nat → Prop} {w : World} {v cv : Value} {c : Cfg} {T : List Nat} {f j : Nat} {S : Nat → Value} (hown : w.ownsRow base 133 2 v (j + 1) ((List.range (j * 2)).map S ++ [.int .i64 (tkI T (f + j)), cv]))
   (h1 : ∀ t, t < j → S (t * 2) = .int .i64 (tkI T (f + t)) ∧ CellI ok w (S (t * 2 + 1)) c.layers c.width (kOf c (tkN T) (f + t)) (vOf c (tkN T) (f + t)))
   (hc : CellI ok w cv c.layers c.width (kOf c (tkN T) (f + j)) (vOf c (tkN T) (f + j))) : SlotsI base ok w v c T f (j + 1) := by
 refine SlotsI.append (m := j) (k := 1) (S := S) (S' := fun i => if i = 0 then .int .i64 (tkI T (f + j)) else cv) ?_ h1 (fun t ht => ?_)
 · exact hown
 · obtain rfl : t = 0 := by omega
   exact ⟨rfl, hc⟩
theorem SlotsI.base {base base' : Nat} {ok : Nat → Prop} {w : World} {v : Value} {c : Cfg} {T : List Nat} {f k : Nat} (h : SlotsI base ok w v c T f k) (hb : base' ≤ base) : SlotsI base' ok w v c T f k := by
 obtain ⟨S, h1, h2⟩ := h
 exact ⟨S, owns_base h1 hb, h2⟩
section
variable {F ok : Nat → Prop} {w w' : World} {g : Parts} {c : Cfg} {B : Key → Option Nat} {U : Key → Nat} {V : List Nat → Option Nat} {il : List (List Nat)} {free : List Nat} {vI vF : Value} {N : List Nat → Option (Nat × Nat)} {Mm : List Nat → Option Nat}
theorem LowX.took {b : Nat} (h : LowX F ok w g c B U V il (free ++ [b]) vI vF N Mm) (v' : Value) (hP : PoolI w' g.PL v' free) (hO : Only (fun j => j = g.PL ∨ vF.ownBlock = some j) w w') (hown : v'.ownBlock = vF.ownBlock) :
   LowX F ok w' g c B U V il free vI v' N Mm ∧ Moves F w w' ∧ w'.heap[b]? = some (.cells #[.slice none 0 0, .pointer none, .int .i64 0] 78 (0, 0)) := by
 obtain ⟨arr, o0, o⟩ := h.obj
 have tys : ∀ j cur e fr, (j = g.PL ∨ vF.ownBlock = some j) → w.heap[j]? = some (.cells cur e fr) → e = 120 ∨ e = 66 := by
   rintro j cur e fr (rfl | hj) hh
   · rw [h.pool.obj] at hh; injection hh with hh; injection hh with _ hh _; exact .inl hh.symm
   · obtain ⟨cur', hc⟩ := h.pool.row.kind hj
     rw [hc] at hh; injection hh with hh; injection hh with _ hh _; exact .inr hh.symm
 have far : ∀ {j : Nat} {a : Array Value} {e : TypeId} {fr : Nat × Nat}, w.heap[j]? = some (.cells a e fr) → e ≠ 120 → e ≠ 66 → w'.heap[j]? = w.heap[j]? := fun {j a e fr} hj h1 h2 => hO.block _ (lt_blk hj) (fun hf => (tys j a e fr hf hj).elim h1 h2)
 have kk : ∀ e, e ≠ 120 → e ≠ 66 → KeepT e w w' := fun e h1 h2 => hO.keep (fun j cur fr hf hh => (tys j cur e fr hf hh).elim h1 h2)
 have mfar : ∀ {mb n : Nat} {M : Int → Option Value}, MapV Tryz.prog 3 w mb n M → w'.heap[mb]? = w.heap[mb]? := fun hv => hO.block _ hv.lt (fun hf => by
   rcases hf with rfl | hf
   · exact TreeI.mapne h.pool.obj hv rfl
   · obtain ⟨cur, hc⟩ := h.pool.row.kind hf
     exact TreeI.mapne hc hv rfl)
 refine ⟨⟨⟨arr, by rw [far o0 (by decide) (by decide)]; exact o0, o⟩, h.model.keep (kk _ (by decide) (by decide)) (kk _ (by decide) (by decide)) (kk _ (by decide) (by decide)) (kk _ (by decide) (by decide)), hP,
   h.tree.keepT (fun p a hp => ?_) (fun p mb hp hm => mfar (h.tree.kids p mb hp hm)), h.root, h.smap, h.list.keep (fun b' hb' => hO.block _ (own_lt h.list hb') (fun hf => ?_)), h.ilN, h.ilnd, h.blks.keep (fun k b' hk => ?_) (kk _ (by decide) (by decide)) (kk _ (by decide) (by decide)) (kk _ (by decide) (by decide)), fun b' hb' => h.freeB b' (by simp [hb']), fun b' hb' hb'' => h.apart b' hb' (by rw [← hown]; exact hb''), h.fX, h.fP, h.fI, fun b' hb' => h.fF b' (by rw [← hown]; exact hb'), h.fB, fun b' hb' => h.fE b' (by simp [hb']), fun k b' x y z s hk hh hs => ?_⟩, Moves.of_only hO (fun j hj => ?_) (fun j cur e fr hj hh => ?_), ?_⟩
 · obtain ⟨a', ty, n0, _⟩ := h.tree.node p a hp
   have := h.tree.kind p a a' ty _ hp n0
   refine far n0 (fun e => ?_) (fun e => ?_) <;> (rw [e] at this; rcases this with e | e <;> exact absurd e (by decide))
 · rcases hf with hf | hf
   · obtain ⟨cur, hc⟩ := h.list.kind hb'
     exact LowX.ty_ne hc h.pool.obj (by decide) hf
   · exact h.apart b' hb' hf
 · obtain ⟨x, hx, _⟩ := h.blks.at' k b' hk
   exact far hx (by decide) (by decide)
 · obtain ⟨x', hx', _⟩ := h.blks.at' k b' hk
   rw [far hx' (by decide) (by decide)] at hh
   exact h.fS k b' x y z s hk hh hs
 · rcases hj with rfl | hj
   · exact h.fP
   · exact h.fF j hj
 · rcases tys j cur e fr hj hh with rfl | rfl
   · exact .inr (.inl rfl)
   · exact .inr (.inr (.inl rfl))
 · have := h.pool.blank b (by simp)
   rw [far this (by decide) (by decide)]; exact this
theorem LowX.other {b : Nat} {cur : Array Value} (h : LowX F ok w g c B U V il free vI vF N Mm) (hb : w.heap[b]? = some (.cells cur 78 (0, 0))) (hfree : b ∉ free) (hB : ∀ k, B k ≠ some b) (hO : Only (fun j => j = b) w w') : LowX F ok w' g c B U V il free vI vF N Mm := by
 obtain ⟨arr, o0, o⟩ := h.obj
 have far : ∀ {j : Nat} {a : Array Value} {e : TypeId} {fr : Nat × Nat}, w.heap[j]? = some (.cells a e fr) → j ≠ b → w'.heap[j]? = w.heap[j]? := fun {j a e fr} hj h1 => hO.block _ (lt_blk hj) h1
 have nt : ∀ {j : Nat} {a : Array Value} {e : TypeId} {fr : Nat × Nat}, w.heap[j]? = some (.cells a e fr) → e ≠ 78 → j ≠ b := fun hj he => LowX.ty_ne hj hb he
 have kk : ∀ e, e ≠ 78 → KeepT e w w' := fun e h1 => hO.keep (fun j cur' fr hf hh => nt hh h1 hf)
 refine ⟨⟨arr, by rw [far o0 (nt o0 (by decide))]; exact o0, o⟩, h.model.keep (kk _ (by decide)) (kk _ (by decide)) (kk _ (by decide)) (kk _ (by decide)), h.pool.keep (far h.pool.obj (nt h.pool.obj (by decide))) (fun b' hb' => ?_) (fun b' hb' => far (h.pool.blank b' hb') (fun e => hfree (by rw [← e]; exact hb'))),
   h.tree.keepT (fun p a hp => ?_) (fun p mb hp hm => hO.block _ (h.tree.kids p mb hp hm).lt (TreeI.mapne hb (h.tree.kids p mb hp hm)).symm), h.root, h.smap, h.list.keep (fun b' hb' => ?_), h.ilN, h.ilnd, h.blks.keep (fun k b' hk => ?_) (kk _ (by decide)) (kk _ (by decide)) (kk _ (by decide)), h.freeB, h.apart, h.fX, h.fP, h.fI, h.fF, h.fB, h.fE, fun k b' x y z s hk hh hs => ?_⟩
 · obtain ⟨cur', hc⟩ := h.pool.row.kind hb'
   exact far hc (nt hc (by decide))
 · obtain ⟨a', ty, n0, _⟩ := h.tree.node p a hp
   have := h.tree.kind p a a' ty _ hp n0
   refine far n0 (nt n0 (fun e => ?_))
   rw [e] at this; rcases this with e | e <;> exact absurd e (by decide)
 · obtain ⟨cur', hc⟩ := h.list.kind hb'
   exact far hc (nt hc (by decide))
 · obtain ⟨x, hx, _⟩ := h.blks.at' k b' hk
   exact far hx (fun e => hB k (by rw [← e]; exact hk))
 · obtain ⟨x', hx', _⟩ := h.blks.at' k b' hk
   rw [far hx' (fun e => hB k (by rw [← e]; exact hk))] at hh
   exact h.fS k b' x y z s hk hh hs
theorem LowX.laid {b : Nat} {x : Value} (h : LowX F ok w g c B U V il free vI vF N Mm) (hs : 1 ≤ c.slots) (k : Key) (u : Nat) (hb : w.heap[b]? = some (.cells #[x, blkV (B (pred c.slots k)), .int .i64 u] 78 (0, 0))) (hS : SlotsI 0 ok w x c k.1 (pred c.slots k).1.length (k.1.length - (pred c.slots k).1.length)) (hfree : b ∉ free) (hB : ∀ j, B j ≠ some b)
   (hk : B k = none) (hne : k.1 ≠ [] ∧ keyOk c.slots k ∧ k.1.length ≤ 40 ∧ ∀ t ∈ k.1, t < c.vocab) (hah : (pred c.slots k).1 ≠ [] → B (pred c.slots k) ≠ none) (hF : F b) (hFs : ∀ s, x.ownBlock = some s → F s) :
   LowX F ok w g c (fun i => if i = k then some b else B i) (fun i => if i = k then u else U i) V il free vI vF N Mm := by
 have hpk : pred c.slots k ≠ k := fun e => by
   have := (pred_len c.slots k hs hne.1).2
   rw [e] at this
   omega
 have hpj : ∀ j, B j ≠ none → pred c.slots j ≠ k := fun j hj e => by
   have := h.blks.ahead j hj (by rw [e]; exact hne.1)
   rw [e] at this
   exact this hk
 have hilk : ∀ p ∈ il, (p, 0) ≠ k := fun p hp e => h.ilN p hp (by rw [e]; exact hk)
 have hilB : ilB (fun i => if i = k then some b else B i) il = ilB B il := by
   unfold ilB
   apply List.map_congr_left
   intro p hp
   dsimp only
   rw [if_neg (hilk p hp)]
 refine ⟨h.obj, h.model, h.pool, h.tree, h.root, h.smap, by rw [hilB]; exact h.list, fun p hp => by rw [if_neg (hilk p hp)]; exact h.ilN p hp, h.ilnd, ⟨fun j b' hj => ?_, fun j hj => ?_, fun j hj hp => ?_, fun j j' b' hj hj' => ?_⟩, fun b' hb' j hj => ?_, h.apart, h.fX, h.fP, h.fI, h.fF, fun j b' hj => ?_, h.fE, fun j b' x' y' z' s hj hh hs' => ?_⟩
 · by_cases e : j = k
   · subst e
     simp only [if_true] at hj
     injection hj with hj
     subst hj
     refine ⟨x, ?_, hS⟩
     dsimp only
     rw [if_neg hpk, if_pos rfl]
     exact hb
   · simp only [if_neg e] at hj
     obtain ⟨x', hx', hs'⟩ := h.blks.at' j b' hj
     refine ⟨x', ?_, hs'⟩
     dsimp only
     rw [if_neg (hpj j (by rw [hj]; simp)), if_neg e]
     exact hx'
 · by_cases e : j = k
   · rw [e]; exact hne
   · simp only [if_neg e] at hj
     exact h.blks.ne j hj
 · by_cases e : j = k
   · subst e
     rw [if_neg hpk]
     exact hah hp
   · simp only [if_neg e] at hj
     rw [if_neg (hpj j hj)]
     exact h.blks.ahead j hj hp
 · by_cases e : j = k
   · by_cases e' : j' = k
     · rw [e, e']
     · simp only [if_pos e] at hj
       simp only [if_neg e'] at hj'
       injection hj with hj
       exact absurd (by rw [hj]; exact hj') (hB j')
   · by_cases e' : j' = k
     · simp only [if_neg e] at hj
       simp only [if_pos e'] at hj'
       injection hj' with hj'
       exact absurd (by rw [hj']; exact hj) (hB j)
     · simp only [if_neg e] at hj
       simp only [if_neg e'] at hj'
       exact h.blks.inj j j' b' hj hj'
 · by_cases e : j = k
   · simp only [if_pos e] at hj
     injection hj with hj
     exact hfree (by rw [hj]; exact hb')
   · simp only [if_neg e] at hj
     exact h.freeB b' hb' j hj
 · by_cases e : j = k
   · simp only [if_pos e] at hj
     injection hj with hj
     rw [← hj]; exact hF
   · simp only [if_neg e] at hj
     exact h.fB j b' hj
 · by_cases e : j = k
   · simp only [if_pos e] at hj
     injection hj with hj
     subst hj
     rw [hb] at hh
     injection hh with hh
     injection hh with hh _ _
     have : x = x' := by
       have := congrArg (fun a => a[0]?) hh
       simpa using this
     subst this
     exact hFs s hs'
   · simp only [if_neg e] at hj
     exact h.fS j b' x' y' z' s hj hh hs'
end
theorem pred_fill {s f e t : Nat} {T : List Nat} (hs : 1 ≤ s) (hf : f % s = 0) (h1 : f < e) (h2 : e ≤ f + s) (h3 : e ≤ T.length) : pred s (T.take e, t) = (T.take f, 0) := by
 unfold pred
 have hl : (T.take e).length = e := by simp; omega
 simp only [hl]
 have e1 : (e - 1) / s * s = f := by
   obtain ⟨q, hq⟩ := Nat.dvd_of_mod_eq_zero hf
   have : (e - 1) / s = q := by
     rw [show e - 1 = (e - 1 - f) + s * q by omega, Nat.add_mul_div_left _ _ (by omega), Nat.div_eq_of_lt (by omega), Nat.zero_add]
   rw [this, hq, Nat.mul_comm]
 rw [e1, List.take_take, Nat.min_eq_left (by omega)]
end Go.Proofs.YtlmflighkkgikaaGreat
