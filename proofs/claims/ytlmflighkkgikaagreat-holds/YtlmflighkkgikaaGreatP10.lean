import Derived.Test.YtlmflighkkgikaaGreatP08

namespace Go.Proofs.YtlmflighkkgikaaGreat
open Go.RowKit
attribute [local go_sem ↓] Go.wp_at_zero Go.wp_at_succ
def toksOf (L : List (Int × Key)) : List (List Nat) := L.map (·.2.1)
theorem toksOf_len (L : List (Int × Key)) : (toksOf L).length = L.length := by unfold toksOf; simp
theorem toksOf_take (L : List (Int × Key)) (k : Nat) (h : k < L.length) : (toksOf L).take (k + 1) = (toksOf L).take k ++ [toksAt L k] := by
 rw [take_snoc' _ [] _ (by rw [toksOf_len]; exact h)]
 congr 2
 unfold toksOf toksAt
 simp [List.getD_eq_getElem?_getD, h]
theorem toksOf_mem (L : List (Int × Key)) (T : List Nat) (h : T ∈ toksOf L) : ∃ i, i < L.length ∧ toksAt L i = T := by
 obtain ⟨i, hi, e⟩ := List.getElem_of_mem h
 rw [toksOf_len] at hi
 refine ⟨i, hi, ?_⟩
 rw [← e]
 simp only [toksOf, toksAt, List.getElem_map]
 simp [List.getD_eq_getElem?_getD, hi]
theorem TokRow.grown {w w' : World} {v : Value} {l : List (List Nat)} {r : Option Nat} (h : TokRow w v l) (hg : w.grownBy w' r) (hne : ∀ a n c, v = .slice (some a) n c → r ≠ some a.block) (hk : KeepT 3 w w') : TokRow w' v l := by
 obtain ⟨vs, ⟨a, c, rfl, h1, h2, h3⟩, h4⟩ := h
 refine ⟨vs, ⟨a, c, rfl, h1, h2, fun h0 => ?_⟩, fun i hi => (h4 i hi).keep hk⟩
 obtain ⟨b, off, rfl, hb, hc⟩ := h3 h0
 refine ⟨b, off, rfl, Nat.lt_of_lt_of_le hb hg.size, fun j hj => hg.cell (hc j hj) (fun e => hne _ _ _ rfl e.symm)⟩
theorem used_bd {s : Nat} {L : List (Int × Key)} (k : Nat) (h1 : L.length ≤ 8) (h2 : ∀ i, i < L.length → (toksAt L i).length ≤ 40) : (usedOf s ((toksOf L).take k)).length ≤ 320 := by
 have := usedOf_len s ((toksOf L).take k) 40 (fun T hT => by
   obtain ⟨i, hi, rfl⟩ := toksOf_mem L T (List.mem_of_mem_take hT)
   rw [wholesOf_len]
   exact Nat.le_trans (Nat.div_le_self _ _) (h2 i hi))
 rw [List.length_take, toksOf_len] at this
 have : min k L.length * 40 ≤ 8 * 40 := Nat.mul_le_mul_right _ (by omega)
 omega
set_option maxRecDepth 100000 in
set_option maxHeartbeats 2000000 in
theorem refused_any (Y d : Nat) (c : Cfg) (hc : c.ok) (L : List (Int × Key)) (ok : Nat → Prop) (il : List (List Nat)) (nt : Nat) (vL vI : Value) (w : World) (h : RefI ok w Y d c L il nt vL vI) :
   Calls Tryz.prog 34 #[.pointer (some ⟨Y, 0, none⟩)] w fun e w' => ∃ r, e = .returned r ∧ OwnToks w.heap.size w' r (usedOf c.slots (toksOf L)) ∧ Below w.heap.size w w' := by
 obtain ⟨i1, hi', hz0', hz1', hz2'⟩ := info_parts Tryz.info_ints2
 obtain ⟨s1, s2⟩ := hc.slots
 have hYl := lt_blk h.obj
 have hdl := h.dec.lt
 have y0 : w.cell? ⟨Y, 0, none⟩ = some (.pointer (some ⟨d, 0, none⟩)) := by rw [cell_blk h.obj]; rfl
 have y1 : w.cell? ⟨Y, 1, none⟩ = some vL := by rw [cell_blk h.obj]; rfl
 have dd1 : w.cell? ⟨d, 1, none⟩ = some (.int .i64 c.slots) := by
   obtain ⟨vW, h1, _⟩ := h.dec
   rw [cell_blk h1]; rfl
 have hmany := h.many
 obtain ⟨a, cap, rfl, hc1, hc2, hcells⟩ := h.seqs.cells
 have HC := hide hcells
 have HB := hide (fun k => used_bd (s := c.slots) k h.many (fun i hi => (h.lenAt i hi).2))
 clear hcells
 go_enter Tryz.func34, Tryz.ntmps34
 go_wp2
 go_loopw [3, 4] (fun o i wr => ∃ k : Nat, k ≤ L.length ∧ i = .int .i64 k ∧ OwnToks w.heap.size wr o (usedOf c.slots ((toksOf L).take k)) ∧ Below w.heap.size w wr) (fun _ i _ => L.length - (intOf i).toNat)
 case atStart => exact ⟨0, Nat.zero_le _, rfl, OwnToks.nil _ _, Below.refl _ _⟩
 case round =>
   obtain ⟨k, hk, rfl, hown, hbel⟩ := hrel
   have hsz := hbel.size
   have r1 := (hbel.cell (p := ⟨Y, 1, none⟩) hYl).trans y1
   by_cases hlt : k < L.length
   · obtain ⟨g, rfl, hg, hcell⟩ := HC.out (by omega)
     obtain ⟨_, ⟨vt, ct, hT, _⟩, _⟩ := hcell k hlt
     have ct' := (hbel.cell (p := ⟨g, k * 3 + 1, none⟩) hg).trans ct
     have hlen := (h.lenAt k hlt).2
     clear hcell ct
     go_wp2_with fail
     refine (refwholes_any Y d c.slots vt (toksAt L k) wr ((hbel.cell (p := ⟨Y, 0, none⟩) hYl).trans y0) ((hbel.cell (p := ⟨d, 1, none⟩) hdl).trans dd1) (by omega) (by omega) (hT.keep (KeepT.of_below hbel)) s1 (by omega) (by omega)).mono ?_
     rintro e w1 ⟨vw, rfl, hw1, hb1⟩
     have hown1 := hown.below hb1
     have hbel1 := hbel.trans (hb1.mono hsz)
     have hsz1 := hbel1.size
     have hwl : (wholesOf c.slots (toksAt L k)).length ≤ 40 := by rw [wholesOf_len]; exact Nat.le_trans (Nat.div_le_self _ _) hlen
     obtain ⟨aw, cw, ew⟩ := hw1.len
     subst ew
     have hne0 : ∀ a n e', Value.slice aw (wholesOf c.slots (toksAt L k)).length cw = .slice (some a) n e' → u3.ownBlock ≠ some a.block := fun a n e' e hh => by
       obtain ⟨vs, ⟨_, ⟨e1, _⟩ | ⟨g1, cap1, cur1, e1, hg1, _⟩⟩, _⟩ := hw1
       · rw [e1] at e; cases e
       · rw [e1] at e
         injection e with e _ _
         injection e with e
         subst e
         obtain ⟨_, hq, _⟩ := hown
         have := (hq.lt _ hh).2
         simp at this hg1
         omega
     have hrow1 := hw1.row
     have hU := HB.out k
     have HUs : Hid (usedOf c.slots ((toksOf L).take (k + 1)) = addAll (usedOf c.slots ((toksOf L).take k)) (wholesOf c.slots (toksAt L k))) := by
       show _ = _
       rw [toksOf_take L k hlt, usedOf_snoc]
     generalize usedOf c.slots ((toksOf L).take k) = U at hown hown1 hU HUs
     generalize wholesOf c.slots (toksAt L k) = bs at hw1 hwl hrow1 HUs hne0
     clear hown hbel hsz r1 ct' hw1 hb1
     go_wp2
     go_loopw [3, 6] (fun o i wr => ∃ j : Nat, j ≤ bs.length ∧ i = .int .i64 j ∧ OwnToks w.heap.size wr o (addAll U (bs.take j)) ∧ TokRow wr (.slice aw bs.length cw) bs ∧ Hid (∀ a n e', Value.slice aw bs.length cw = .slice (some a) n e' → o.ownBlock ≠ some a.block) ∧ Below w.heap.size w wr) (fun _ i _ => bs.length - (intOf i).toNat)
     case atStart => exact ⟨0, Nat.zero_le _, rfl, hown1, hrow1, hne0, hbel1⟩
     case round =>
       clear hown1 hrow1 hbel1 hsz1 hne0
       obtain ⟨j, hj, rfl, hown, hrow, Hne, hbel⟩ := hrel
       have hsz := hbel.size
       have hAl := addAll_len U (bs.take j)
       rw [List.length_take] at hAl
       by_cases hjl : j < bs.length
       · obtain ⟨vs, ⟨aw', cw', ew', hvr1, _, hvr3⟩, hvT⟩ := id hrow
         injection ew' with e1 e2 e3
         subst e1 e3
         obtain ⟨bw, ow, rfl, hbw, hcw⟩ := hvr3 (by omega)
         have cj := hcw j hjl
         have hTj := hvT j hjl
         obtain ⟨bj, ebj⟩ : ∃ bj, bj = bs.getD j [] := ⟨_, rfl⟩
         rw [← ebj] at hTj
         have Hbj := hide ebj
         clear ebj
         have Hrow := hide hrow
         have Hown := hide hown
         obtain ⟨vo, hvo1, hvo2⟩ := hown
         have Hvo2 := hide hvo2
         obtain ⟨ao, co, eo⟩ := Hown.out.len
         subst eo
         clear hcw hvr3 hvT hrow hvo2
         go_wp2_with fail
         refine (refin_any _ _ _ (bj) _ Hown.out.row hTj (by omega)).mono ?_
         rintro e w2 ⟨r, rfl, hr1, hr2, q, rfl⟩
         have cj' : (wr.drewN q).cell? ⟨bw, ow + j, none⟩ = some (vs j) := cj
         by_cases hin : bj ∈ addAll U (bs.take j)
         · have hr := hr1 hin
           go_wp2
           go_roundw
           case rel =>
             refine ⟨j + 1, by omega, by go_num, ?_, Hrow.out, Hne.out, below_drewN hbel _⟩
             rw [take_snoc' _ [] _ hjl, addAll_snoc, ← Hbj.out]
             unfold addTo
             rw [if_pos hin]
             exact Hown.out
           case measure => simp [intOf]; omega
         · have hr := hr2 hin
           subst hr
           obtain ⟨at', ct', et, _, _⟩ := hTj.slice
           rw [et] at cj' hTj
           go_wp2_with (at_builtin; refine wpList_append_lies _ rfl _ _ _ rfl w.heap.size 36 i1 _ 1 24 Tryz.underlying62 hi' hz0' hz1' hz2' rfl (by omega) _ _ _ rfl ((owns_drewN hvo1 q).alloc _) ⟨wr.heap.size, 0, none⟩ 1 1 [.slice at' (bj).length ct'] rfl rfl (one_new (wr.drewN q) _ _) (by intro u hu; simp at hu; subst hu; rfl) (by omega) (by unfold maxLen; omega) (by omega) (by simp; omega) (wr.heap.size + 1) (by simp) ?_; intro gg cap w3 hown2 hgrow hat hlt2)
           have hkt : KeepT 3 wr w3 := ((KeepT.drewN wr q).trans (KeepT.alloc _ _)).trans (KeepT.of_grown ((owns_drewN hvo1 q).alloc _) hgrow (by decide))
           have hbel' : Below w.heap.size w w3 := ((below_drewN hbel q).alloc (by simp; omega) _).grown hgrow (by simp; omega) (fun g hg => (hvo1.lt g hg).1)
           have hpush : OwnToks w.heap.size w3 (.slice (some ⟨gg, 0, none⟩) ((addAll U (bs.take j)).length + 1) cap) (addAll U (bs.take (j + 1))) := by
             rw [take_snoc' _ [] _ hjl, addAll_snoc, ← Hbj.out]
             unfold addTo
             rw [if_neg hin]
             exact Hown.out.push vo Hvo2.out hown2 hkt hTj
           have hrow' : TokRow w3 (.slice (some ⟨bw, ow, none⟩) bs.length cw) bs := by
             have h1 : TokRow ((wr.drewN q).alloc (.cells #[.slice at' (bj).length ct'] 36)) (.slice (some ⟨bw, ow, none⟩) bs.length cw) bs := Hrow.out.below (((below_drewN (Below.refl _ _) q)).alloc (by simp) _)
             exact h1.grown hgrow Hne.out (KeepT.of_grown ((owns_drewN hvo1 q).alloc _) hgrow (by decide))
           have hne' : Hid (∀ a n e', Value.slice (some ⟨bw, ow, none⟩) bs.length cw = .slice (some a) n e' → (Value.slice (some ⟨gg, 0, none⟩) ((addAll U (bs.take j)).length + 1) cap).ownBlock ≠ some a.block) := by
             intro a n e' e hh
             injection e with e _ _
             injection e with e
             subst e
             simp only [Value.ownBlock] at hh
             injection hh with hh
             subst hh
             rcases hat with hat | hat
             · exact Hne.out _ _ _ rfl hat
             · omega
           clear hown2 hgrow hkt
           go_wp2
           go_roundw
           case rel => exact ⟨j + 1, by omega, by go_num, hpush, hrow', hne', hbel'⟩
           case measure => simp [intOf]; omega
       · have hall : bs.take j = bs := List.take_of_length_le (by omega)
         rw [hall, ← HUs.out] at hown
         go_wp2
         go_roundw
         case rel => exact ⟨k + 1, by omega, by go_num, hown, hbel⟩
         case measure => simp [intOf]; omega
   · have hall : (toksOf L).take k = toksOf L := List.take_of_length_le (by rw [toksOf_len]; omega)
     rw [hall] at hown
     go_wp2
     go_ret
     exact ⟨_, rfl, hown, hbel⟩
def Mems (w : World) (v : Value) (n m : Nat) (kf vf : Nat → Nat → Int) : Prop :=
 ∃ a c, v = .slice a n c ∧ n ≤ c ∧ c ≤ maxLen ∧ (0 < n → ∃ b off, a = some ⟨b, off, none⟩ ∧ b < w.heap.size ∧
   ∀ t, t < n → ∃ vk vv, w.cell? ⟨b, off + t * 2, none⟩ = some vk ∧ w.cell? ⟨b, off + t * 2 + 1, none⟩ = some vv ∧ IntsT w vk m (kf t) ∧ IntsT w vv m (vf t))
theorem IntsT.sub {w : World} {b off n c : Nat} {g : Nat → Int} (h : IntsT w (.slice (some ⟨b, off, none⟩) n c) n g) (lo k : Nat) (hk : lo + k ≤ n) : IntsT w (.slice (some ⟨b, off + lo, none⟩) k (c - lo)) k (fun j => g (lo + j)) := by
 obtain ⟨a, c', e, h1, h2, h3⟩ := h
 injection e with e1 _ e2
 subst e1 e2
 refine ⟨_, _, rfl, by omega, by omega, fun hk0 => ?_⟩
 obtain ⟨b', off', cur, fr, e, hb, hc⟩ := h3 (by omega)
 injection e with e
 injection e with e1 e2
 subst e1 e2
 exact ⟨b, off + lo, cur, fr, rfl, hb, fun j hj => by rw [Nat.add_assoc]; exact hc (lo + j) (by omega)⟩
theorem IntsT.cell {w : World} {b off n c : Nat} {g : Nat → Int} (h : IntsT w (.slice (some ⟨b, off, none⟩) n c) n g) : ∀ j, j < n → w.cell? ⟨b, off + j, none⟩ = some (.int .i64 (g j)) := by
 intro j hj
 obtain ⟨a, c', e, _, _, h3⟩ := h
 injection e with e1 _ e2
 subst e1
 obtain ⟨b', off', cur, fr, e, hb, hc⟩ := h3 (by omega)
 injection e with e
 injection e with e1 e2
 subst e1 e2
 rw [cell_blk hb]; exact hc j hj
def stepped (f : Nat → Nat → Int) (t j i : Nat) : Int := sumTo (f i) (if i < j then t + 1 else t)
set_option maxRecDepth 100000 in
set_option maxHeartbeats 2000000 in
theorem dhead_any (n m lo k2 : Nat) (vq vs : Value) (q : Nat → Int) (kf vf : Nat → Nat → Int) (w : World) (hq : IntsT w vq m q) (hs : Mems w vs n m kf vf) (hn1 : 1 ≤ n) (hn : n ≤ 1000) (hm : m ≤ 100) (hk1 : 1 ≤ k2) (hk4 : k2 ≤ 4) (hlo : lo + k2 ≤ m)
   (bq : ∀ j, -4095 ≤ q j ∧ q j ≤ 4095) (bk : ∀ t j, -4095 ≤ kf t j ∧ kf t j ≤ 4095) (bv : ∀ t j, -4095 ≤ vf t j ∧ vf t j ≤ 4095) :
   Calls Tryz.prog 119 #[vq, vs, .int .i64 lo, .int .i64 ((lo : Int) + (k2 : Int))] w fun e w' =>
     ∃ r, e = .returned r ∧ IntsT w' r k2 (fun i => headAt (n - 1) (fun t => scoreOf lo k2 q (kf t)) (fun t => vf t (lo + i))) ∧ Below w.heap.size w w' := by
 obtain ⟨as1, cs1, rfl, hs1, hs2, hs3⟩ := hs
 obtain ⟨bs, os, rfl, hbs, hcs⟩ := hs3 (by omega)
 obtain ⟨aq, cq, rfl, hq1, hq3⟩ := hq.at
 obtain ⟨bqq, oq, rfl, hbq, hcq⟩ := hq3 (by omega)
 have Hcs := hide hcs
 have hmk := run_make_row' (P := Tryz.prog) 36 3 (.int .i64 0) 8 Tryz.underlying36 Tryz.info_int rfl .i64 .i64 n (by omega) (by omega)
 have hmk2 := run_make_row' (P := Tryz.prog) 36 3 (.int .i64 0) 8 Tryz.underlying36 Tryz.info_int rfl .i64 .i64 k2 (by omega) (by omega)
 clear hcs hs3 hcq hq3
 go_enter Tryz.func119, Tryz.ntmps119
 go_wp2
 clear hmk
 go_loopw [24] (fun i wr => ∃ k : Nat, k ≤ n ∧ i = .int .i64 k ∧ wr.rowIs w.heap.size 3 n (fun j => .int .i64 (filled (fun t => scoreOf lo k2 q (kf t)) k j)) ∧ Below w.heap.size w wr) (fun i _ => n - (intOf i).toNat)
 case atStart => exact ⟨0, Nat.zero_le _, rfl, fill_start w n _, (Below.refl _ _).alloc (Nat.le_refl _) _⟩
 case round =>
   obtain ⟨k, hk, rfl, hrow, hbel⟩ := hrel
   have hsz := hbel.size
   by_cases hlt : k < n
   · obtain ⟨vk, vv, d1, d2, hvk, hvv⟩ := Hcs.out k hlt
     replace d1 := (hbel.cell (p := ⟨bs, os + k * 2, none⟩) hbs).trans d1
     replace d2 := (hbel.cell (p := ⟨bs, os + k * 2 + 1, none⟩) hbs).trans d2
     replace hvk := hvk.keep (KeepT.of_below hbel)
     have hqr := hq.keep (KeepT.of_below hbel)
     obtain ⟨ak, ck, rfl, hk1', hk3⟩ := hvk.at
     obtain ⟨bk', ok, rfl, hbk, _⟩ := hk3 (by omega)
     obtain ⟨av, cv, rfl, hv1', hv3⟩ := hvv.at
     have c3 := hrow.cell hlt
     have c4 := hrow.frozen k
     have i1 : (0 : Int) ≤ (lo : Int) := by omega
     have i2 : (lo : Int) ≤ (lo : Int) + (k2 : Int) := by omega
     have i3 : (lo : Int) + (k2 : Int) ≤ (cq : Int) := by omega
     have i4 : (lo : Int) + (k2 : Int) ≤ (ck : Int) := by omega
     have hlt0 := hrow.lt
     have hne : ¬ wr.heap.size = w.heap.size := by omega
     have hne2 : ¬ w.heap.size = wr.heap.size := by omega
     have p1 := hqr.sub lo k2 hlo
     have p2 := hvk.sub lo k2 hlo
     obtain ⟨x1, x2⟩ := scoreOf_bd lo k2 q (kf k) hk4 bq (bk k)
     have g1 : ∀ o, (wr.alloc o).cell? ⟨w.heap.size, k, none⟩ = some (.int .i64 (filled (fun t => scoreOf lo k2 q (kf t)) k k)) := fun o => (World.cell?_alloc_past _ _ _ (by omega)).trans c3
     have g2 : ∀ o, (wr.alloc o).frozen? ⟨w.heap.size, k, none⟩ = false := fun o => (World.frozen?_alloc_past _ _ _ (by omega)).trans c4
     have f1 : ¬ cq = lo := by omega
     have f2 : ¬ ck = lo := by omega
     have f3 : ((lo : Int) + (k2 : Int)).toNat - lo = k2 := by omega
     have g3 : ∀ x o, ((wr.setCell ⟨w.heap.size, k, none⟩ x).alloc (.cells #[.slice (some ⟨bk', ok, none⟩) m ck, .slice av m cv] o)).cell? ⟨wr.heap.size, 0, none⟩ = some (.slice (some ⟨bk', ok, none⟩) m ck) := fun x o => by
       rw [World.cell?_alloc_at _ _ _ _ (by simp [World.setCell])]; rfl
     have hwr : IntKind.i64.wrap ((sumTo (fun j => q (lo + j) * kf k (lo + j)) k2).tdiv 256) = scoreOf lo k2 q (kf k) := by
       rw [wrap_in]
       · rfl
       · have : -67076100 ≤ (sumTo (fun j => q (lo + j) * kf k (lo + j)) k2).tdiv 256 := x1
         omega
       · have : (sumTo (fun j => q (lo + j) * kf k (lo + j)) k2).tdiv 256 ≤ 67076100 := x2
         omega
     clear hk3 hv3 hmk2
     go_wp2
     go_region_held3 (fun w' => w'.cell? ⟨wr.heap.size, 0, none⟩ = some (.slice (some ⟨bk', ok, none⟩) m ck))
       (go_keep)
       (first
         | (go_at_call 113; refine Calls_use (product_any k2 k2 _ _ (fun j => q (lo + j)) (fun j => kf k (lo + j)) _ (by exact p1.keep (KeepT.of_below (((Below.refl _ _).alloc (Nat.le_refl _) _).drew))) (by exact p2.keep (KeepT.of_below (((Below.refl _ _).alloc (Nat.le_refl _) _).drew))) (Nat.le_refl _) (by omega) (fun j => bq _) (fun j => bk _ _)) ?_))
     go_wp2
     go_roundw
     case rel => exact ⟨k + 1, by omega, by go_num, ((fill_step hrow rfl).alloc _).drew, ((hbel.setCell (Nat.le_refl _) _).alloc (by simp [World.setCell]; omega) _).drew⟩
     case measure => simp [intOf]; omega
   · have hkn : n = k := by omega
     subst hkn
     have hsc := fill_done hrow (by unfold maxLen; omega)
     obtain ⟨W1, rfl⟩ : ∃ W1, W1 = wr := ⟨_, rfl⟩
     have e1 : (lo : Int) + (k2 : Int) - (lo : Int) = (k2 : Int) := by omega
     clear hrow
     go_wp2_with fail
     refine (shares_any n _ (fun t => scoreOf lo k2 q (kf t)) _ (hsc.keep (KeepT.of_below ((Below.refl _ _).alloc (Nat.le_refl _) _))) (by omega) hn (fun j => scoreOf_bd lo k2 q (kf j) hk4 bq (bk j))).mono ?_
     rintro e w2 ⟨rfl, hsh, hb2⟩
     have hsz2 := hb2.size
     simp at hsz2
     have hrow : w2.rowIs W1.heap.size 3 k2 (fun i => .int .i64 (stepped (fun i t => shareAt (n - 1) (fun t => scoreOf lo k2 q (kf t)) t * vf t (lo + i)) 0 0 i)) :=
       ((World.rowIs_made W1 (.int .i64 0) k2 3).of_block (hb2.block _ (by simp))).congr (fun i _ => by simp [stepped, sumTo])
     have hbel2 : Below W1.heap.size W1 w2 := ((Below.refl _ _).alloc (Nat.le_refl _) _).trans (hb2.mono (by simp))
     have Hcsh := hide hsh.cell
     clear hsh hb2 hmk2 e1
     go_wp2
     go_loopw [13, 51] (fun al i wr => ∃ t : Nat, t ≤ n ∧ i = .int .i64 t ∧ al = .int .i64 (sumTo (shareAt (n - 1) (fun t => scoreOf lo k2 q (kf t))) t) ∧
         wr.rowIs W1.heap.size 3 k2 (fun i => .int .i64 (stepped (fun i t => shareAt (n - 1) (fun t => scoreOf lo k2 q (kf t)) t * vf t (lo + i)) t 0 i)) ∧ Below W1.heap.size W1 wr ∧
         Hid (∀ j, j < n → wr.cell? ⟨W1.heap.size + 1, 0 + j, none⟩ = some (.int .i64 (shareAt (n - 1) (fun t => scoreOf lo k2 q (kf t)) j)))) (fun _ i _ => n - (intOf i).toNat)
     case atStart => exact ⟨0, by omega, rfl, rfl, hrow, hbel2, by simpa using Hcsh⟩
     case round =>
       clear hrow hbel2 Hcsh
       obtain ⟨t, ht, rfl, rfl, hrow, hbel2, Hcsh⟩ := hrel
       obtain ⟨hA1, hA2⟩ := shares_bd (n - 1) t (fun t => scoreOf lo k2 q (kf t))
       by_cases htl : t < n
       · obtain ⟨vk, vv, d1, d2, hvk, hvv⟩ := Hcs.out t htl
         replace d2 := (hbel2.cell (p := ⟨bs, os + t * 2 + 1, none⟩) (by show bs < _; omega)).trans ((hbel.cell (p := ⟨bs, os + t * 2 + 1, none⟩) hbs).trans d2)
         obtain ⟨av, cv, rfl, hv1', hv3⟩ := hvv.at
         obtain ⟨bv', ov, rfl, hbv, hcv⟩ := hv3 (by omega)
         have s1 := Hcsh.out t htl
         simp only [Nat.zero_add] at s1
         obtain ⟨hS1, hS2⟩ := shareAt_bd (n - 1) (fun t => scoreOf lo k2 q (kf t)) t
         have HcV := hide (hvv.sub lo k2 hlo).cell
         have i1 : (0 : Int) ≤ (lo : Int) := by omega
         have i2 : (lo : Int) ≤ (lo : Int) + (k2 : Int) := by omega
         have i3 : (lo : Int) + (k2 : Int) ≤ (cv : Int) := by omega
         have f2 : ¬ cv = lo := by omega
         have f3 : ((lo : Int) + (k2 : Int)).toNat - lo = k2 := by omega
         clear hcv hv3 d1 hvk hvv
         obtain ⟨W3, rfl⟩ : ∃ W3, W3 = wr := ⟨_, rfl⟩
         go_wp2
         go_loopw [68] (fun i wr => ∃ j : Nat, j ≤ k2 ∧ i = .int .i64 j ∧ wr.rowIs W1.heap.size 3 k2 (fun i => .int .i64 (stepped (fun i t => shareAt (n - 1) (fun t => scoreOf lo k2 q (kf t)) t * vf t (lo + i)) t j i)) ∧ Below W1.heap.size W1 wr ∧
             Hid (∀ j, j < n → wr.cell? ⟨W1.heap.size + 1, 0 + j, none⟩ = some (.int .i64 (shareAt (n - 1) (fun t => scoreOf lo k2 q (kf t)) j)))) (fun i _ => k2 - (intOf i).toNat)
         case atStart => exact ⟨0, by omega, rfl, hrow, hbel2, Hcsh⟩
         case round =>
           clear hrow hbel2 Hcsh s1 d2
           obtain ⟨j, hj, rfl, hrow, hbel2, Hcsh⟩ := hrel
           by_cases hjl : j < k2
           · have c1 := (hbel2.cell (p := ⟨bv', ov + lo + j, none⟩) (by show bv' < _; omega)).trans ((hbel.cell (p := ⟨bv', ov + lo + j, none⟩) hbv).trans (HcV.out j hjl))
             have c3 := hrow.cell hjl
             have c4 := hrow.frozen j
             have e2 : stepped (fun i t => shareAt (n - 1) (fun t => scoreOf lo k2 q (kf t)) t * vf t (lo + i)) t j j = sumTo (fun t => shareAt (n - 1) (fun t => scoreOf lo k2 q (kf t)) t * vf t (lo + j)) t := by simp [stepped]
             rw [e2] at c3
             obtain ⟨hT1, hT2⟩ := heads_bd (n - 1) t (fun t => scoreOf lo k2 q (kf t)) (fun t => vf t (lo + j)) (fun t => bv t _)
             obtain ⟨hU1, hU2⟩ := mul_bd (a := shareAt (n - 1) (fun t => scoreOf lo k2 q (kf t)) t) (b := vf t (lo + j)) (x := 65536) (y := 4095) ⟨by omega, hS2⟩ (bv t _)
             clear e2
             go_wp2
             go_roundw
             case rel =>
               refine ⟨j + 1, by omega, by go_num, (hrow.set j _).congr (fun i _ => ?_), hbel2.setCell (Nat.le_refl _) _, fun j' hj' => ?_⟩
               · by_cases e : i = j
                 · subst e; rw [if_pos rfl]; simp [stepped, sumTo]
                 · rw [if_neg e]; simp only [stepped]
                   by_cases h1 : i < j
                   · rw [if_pos h1, if_pos (by omega)]
                   · rw [if_neg h1, if_neg (by omega)]
               · rw [World.cell?_setCell_other _ _ _ _ (by simp)]; exact Hcsh.out j' hj'
             case measure => simp [intOf]; omega
           · have hjk : k2 = j := by omega
             subst hjk
             go_wp2
             go_roundw
             case rel =>
               refine ⟨t + 1, by omega, by go_num, rfl, hrow.congr (fun i hi => ?_), hbel2, Hcsh⟩
               simp only [stepped]; rw [if_pos hi, if_neg (by omega)]
             case measure => simp [intOf]; omega
       · have htn : n = t := by omega
         subst htn
         have hpos := shares_pos (n - 1) (fun t => scoreOf lo k2 q (kf t))
         rw [show n - 1 + 1 = n by omega] at hpos
         obtain ⟨W3, rfl⟩ : ∃ W3, W3 = wr := ⟨_, rfl⟩
         go_wp2
         go_loopw [86] (fun i wr => ∃ j : Nat, j ≤ k2 ∧ i = .int .i64 j ∧ wr.rowIs W1.heap.size 3 k2 (fun i => .int .i64 (if i < j then headAt (n - 1) (fun t => scoreOf lo k2 q (kf t)) (fun t => vf t (lo + i)) else sumTo (fun t => shareAt (n - 1) (fun t => scoreOf lo k2 q (kf t)) t * vf t (lo + i)) n)) ∧ Below W1.heap.size W1 wr) (fun i _ => k2 - (intOf i).toNat)
         case atStart => exact ⟨0, by omega, rfl, hrow.congr (fun i _ => by simp [stepped]), hbel2⟩
         case round =>
           clear hrow hbel2 Hcsh
           obtain ⟨j, hj, rfl, hrow, hbel2⟩ := hrel
           by_cases hjl : j < k2
           · have c3 := hrow.cell hjl
             have c4 := hrow.frozen j
             rw [if_neg (by omega)] at c3
             obtain ⟨hT1, hT2⟩ := heads_bd (n - 1) n (fun t => scoreOf lo k2 q (kf t)) (fun t => vf t (lo + j)) (fun t => bv t _)
             have HH := hide (show headAt (n - 1) (fun t => scoreOf lo k2 q (kf t)) (fun t => vf t (lo + j)) = (sumTo (fun t => shareAt (n - 1) (fun t => scoreOf lo k2 q (kf t)) t * vf t (lo + j)) n).tdiv (sumTo (shareAt (n - 1) (fun t => scoreOf lo k2 q (kf t))) n) from by
               unfold headAt; rw [show n - 1 + 1 = n by omega])
             obtain ⟨hV1, hV2⟩ := tdiv_bd (s := sumTo (fun t => shareAt (n - 1) (fun t => scoreOf lo k2 q (kf t)) t * vf t (lo + j)) n) (c := sumTo (shareAt (n - 1) (fun t => scoreOf lo k2 q (kf t))) n) (b := 1000 * 268369920) (by omega) ⟨by omega, by omega⟩
             go_wp2
             go_roundw
             case rel =>
               refine ⟨j + 1, by omega, by go_num, (hrow.set j _).congr (fun i _ => ?_), hbel2.setCell (Nat.le_refl _) _⟩
               by_cases e : i = j
               · subst e; rw [if_pos rfl, if_pos (by omega), HH.out]
               · rw [if_neg e]
                 by_cases h1 : i < j
                 · rw [if_pos h1, if_pos (by omega)]
                 · rw [if_neg h1, if_neg (by omega)]
             case measure => simp [intOf]; omega
           · have hjk : k2 = j := by omega
             subst hjk
             go_wp2
             go_ret
             refine ⟨_, rfl, ?_, hbel.trans (hbel2.mono hbel.size)⟩
             obtain ⟨c, hb, hs, hc⟩ := hrow
             refine ⟨_, k2, rfl, Nat.le_refl _, by unfold maxLen; omega, fun _ => ⟨_, 0, c, (0, 0), rfl, hb, fun j hj => ?_⟩⟩
             have := hc j hj
             simp only [if_pos hj] at this
             simpa using this
end Go.Proofs.YtlmflighkkgikaaGreat
