import Derived.Test.YtlmflighkkgikaaGreatP39

namespace Go.Proofs.YtlmflighkkgikaaGreat
open Go.RowKit
attribute [local go_sem ↓] Go.wp_at_zero Go.wp_at_succ
theorem endKey_ok (s : Nat) (T : List Nat) (tn : Nat) (h : tn ≠ 0) : keyOk s (endKey s T tn) := by
 unfold keyOk endKey
 simp only []
 split
 · rename_i e; simp [e]
 · rename_i e; simp [e, h]
theorem putE_tail_le (c : Cfg) (L : List (Int × Key)) (il : List (List Nat)) (k0 : Key) (T : List Nat) (nt : Nat) (h : k0.2 ≤ nt) : (putE c L il k0 T nt).tail ≤ (putE c L il k0 T nt).nt := by
 unfold putE putEnd
 split
 · simp
 · split
   · simpa using h
   · simp
theorem ilS_mem {c : Cfg} {k0 : Key} {H0 : List Key} {il : List (List Nat)} {T p : List Nat} (h : p ∈ ilS c k0 H0 il T) : p ∈ il := by
 unfold ilS upS at h
 exact ((mem_notUp _ _ _).1 (List.mem_of_mem_drop h)).1
theorem ilS_len (c : Cfg) (k0 : Key) (H0 : List Key) (il : List (List Nat)) (T : List Nat) : (ilS c k0 H0 il T).length ≤ il.length := by
 unfold ilS upS notUp
 have := List.length_filter_le (fun p => decide (¬ p <+: farS c.slots (k0 :: H0) il T)) il
 rw [List.length_drop]
 omega
theorem RefI.moved {ok : Nat → Prop} {w W : World} {Y d : Nat} {c : Cfg} {L : List (Int × Key)} {il il' : List (List Nat)} {nt nt' : Nat} {vL vI vI' : Value} (h : RefI ok w Y d c L il nt vL vI) (hO : Only (fun k => k = Y) w W)
   (hobj : W.heap[Y]? = some (.cells #[.pointer (some ⟨d, 0, none⟩), vL, vI', .int .i64 nt'] 85 (0, 0))) (hle : nt ≤ nt') (hI : IdleI ok W vI' il') (hl : il'.length ≤ 1000) (hne : ∀ p ∈ il', 1 ≤ p.length ∧ p.length ≤ 40) : RefI ok W Y d c L il' nt' vL vI' ∧ ∀ e : TypeId, e ≠ 85 → KeepT e w W := by
 have kp : ∀ e : TypeId, e ≠ 85 → KeepT e w W := fun e he => hO.keep (fun k cur fr hk hh => by
   subst hk
   rw [h.obj] at hh
   injection hh with hh
   injection hh with _ h2 _
   exact he h2.symm)
 exact ⟨⟨hobj, h.seqs.stays (fun k hk => by obtain ⟨cur, q⟩ := h.own hk; rw [kp _ (by decide) _ _ _ q, q]) (KeepOk.of (kp _ (by decide))) (fun _ h => h), hI, h.dec.keep (kp _ (by decide)) (kp _ (by decide)), h.tails.more hle, h.many, h.len, h.toks, hl, hne⟩, kp⟩
theorem RefI.counted {ok : Nat → Prop} {w W : World} {Y d : Nat} {c : Cfg} {L : List (Int × Key)} {il : List (List Nat)} {nt nt' : Nat} {vL vI : Value} (h : RefI ok w Y d c L il nt vL vI) (hO : Only (fun k => k = Y) w W)
   (hobj : W.heap[Y]? = some (.cells #[.pointer (some ⟨d, 0, none⟩), vL, vI, .int .i64 nt'] 85 (0, 0))) (hle : nt ≤ nt') : RefI ok W Y d c L il nt' vL vI ∧ ∀ e : TypeId, e ≠ 85 → KeepT e w W := by
 have kp : ∀ e : TypeId, e ≠ 85 → KeepT e w W := fun e he => hO.keep (fun k cur fr hk hh => by
   subst hk
   rw [h.obj] at hh
   injection hh with hh
   injection hh with _ h2 _
   exact he h2.symm)
 exact h.moved hO hobj hle (h.idle.stays (fun a n cp e => by obtain ⟨cur, q⟩ := h.idle.own e; rw [kp _ (by decide) _ _ _ q, q]) (KeepOk.of (kp _ (by decide))) (fun _ h => h)) h.ilen h.ilne
theorem RefTo.trans {ok : Nat → Prop} {w W w' : World} {Y d : Nat} {c : Cfg} {vL vI vL1 vI1 : Value} {L' : List (Int × Key)} {il' : List (List Nat)} {nt' : Nat} (hO : Only (RS Y vL vI) w W) (hs : ∀ k, RS Y vL1 vI1 k → RS Y vL vI k ∨ w.heap.size ≤ k) (hs2 : ∀ k, atB vI1 k → atB vI k ∨ w.heap.size ≤ k) (h : RefTo ok W Y d c vL1 vI1 L' il' nt' w') : RefTo ok w Y d c vL vI L' il' nt' w' := by
 obtain ⟨h1, vL', vI', h2, h3, h4⟩ := h
 have hsz := hO.size
 refine ⟨hO.trans h1 (fun k hk hr => (hs k hr).resolve_right (by omega)), vL', vI', h2, fun k hk => ?_, fun k hk => ?_⟩
 · rcases h3 k hk with q | q
   · exact hs k q
   · exact .inr (by omega)
 · rcases h4 k hk with q | q
   · exact hs2 k q
   · exact .inr (by omega)
theorem RefTo.of_ref {ok : Nat → Prop} {w w' : World} {Y d : Nat} {c : Cfg} {vL vI : Value} {L : List (Int × Key)} {il : List (List Nat)} {nt : Nat} (h : RefI ok w' Y d c L il nt vL vI) (hO : Only (RS Y vL vI) w w') : RefTo ok w Y d c vL vI L il nt w' := ⟨hO, vL, vI, h, fun _ hk => .inl hk, fun _ hk => .inl hk⟩
set_option maxRecDepth 100000 in
set_option maxHeartbeats 2000000 in
theorem refput_nil (Y : Nat) (id : Int) (vs : Value) (t : Nat) (a : Option Addr) (cp : Nat) (w : World) (hvs : ∃ a n c, vs = .slice a n c) :
   Calls Tryz.prog 73 #[.pointer (some ⟨Y, 0, none⟩), .agg #[.int .i64 id, vs, .int .i64 t], .slice a 0 cp] w fun e w' => e = .returned (.tuple #[.agg #[.int .i64 id, vs, .int .i64 t], .int .i64 0]) ∧ Below w.heap.size w w' := by
 obtain ⟨av, nv, cv, rfl⟩ := hvs
 go_enter Tryz.func73, Tryz.ntmps73
 go_wp2
 refine bodyPost_ret (v := .tuple #[.agg #[.int .i64 id, .slice av nv cv, .int .i64 t], .int .i64 0]) ?_ rfl ⟨rfl, ?_⟩
 · simp [results, Tryz.results73, go_sem]
 · exact ((Below.refl _ _).alloc (Nat.le_refl _) _).alloc (by simp) _
def RefCreated (ok : Nat → Prop) (w : World) (Y d : Nat) (c : Cfg) (L : List (Int × Key)) (il : List (List Nat)) (nt : Nat) (vL vI : Value) (id : Int) (n : Nat) (f : Nat → Int) (e : Ending) (w' : World) : Prop :=
 e = .returned (.int .i64 (createS c L il id n f)) ∧ ∃ nt', nt' ≤ nt + 1 ∧
   ((createS c L il id n f ≠ 0 ∧ RefTo ok w Y d c vL vI L il nt' w') ∨
    (createS c L il id n f = 0 ∧ RefTo ok w Y d c vL vI (L ++ [(id, endKey c.slots (natsOf n f) (nt + 1))]) (ilS c ([], 0) (L.map (·.2)) il (natsOf n f)) nt' w'))
set_option maxRecDepth 100000 in
set_option maxHeartbeats 8000000 in
theorem refcreate_any (Y d n : Nat) (c : Cfg) (hc : c.ok) (id : Int) (f : Nat → Int) (vt : Value) (L : List (Int × Key)) (ok : Nat → Prop) (il : List (List Nat)) (nt : Nat) (vL vI : Value) (w : World) (h : RefI ok w Y d c L il nt vL vI) (ht : Ints w vt n f) (hnt : nt ≤ 5000000000000) (hok : ∀ b, w.heap.size ≤ b → ok b)
   (hp : Pure c.slots c.vocab (L.map (·.2)) il) (hfree : nUsed c.slots (L.map (·.2)) + il.length ≤ c.blocks) :
   Calls Tryz.prog 44 #[.pointer (some ⟨Y, 0, none⟩), .int .i64 id, vt] w fun e w' => RefCreated ok w Y d c L il nt vL vI id n f e w' := by
 obtain ⟨i1, hi', hz0', hz1', hz2'⟩ := info_parts Tryz.info_seq
 have hYl := lt_blk h.obj
 have y0 : w.cell? ⟨Y, 0, none⟩ = some (.pointer (some ⟨d, 0, none⟩)) := by rw [cell_blk h.obj]; rfl
 have y1 : w.cell? ⟨Y, 1, none⟩ = some vL := by rw [cell_blk h.obj]; rfl
 have d5 : w.cell? ⟨d, 5, none⟩ = some (.int .i64 c.vocab) := by
   obtain ⟨vW, h1, _⟩ := h.dec
   rw [cell_blk h1]; rfl
 have hmany := h.many
 have ht0 := ht
 obtain ⟨at', ct, rfl, ht1, ht2, _⟩ := ht0
 obtain ⟨aL, cL, eL, hL1, hL2, _⟩ := h.seqs.cells
 unfold maxLen at ht2 hL2
 have hwr := refwrong_any Y d n c _ f w y0 d5 ht
 have Hwr := hide hwr
 have Hok := hide hok
 have Hp := hide hp
 have Hfree := hide hfree
 have Ht := hide ht
 clear hwr hok hp hfree ht
 go_enter Tryz.func44, Tryz.ntmps44
 go_wp2_with fail
 refine Hwr.out.mono ?_
 rintro e W1 ⟨hw, q, hW1⟩
 obtain ⟨bad, eb, hbad, hgood⟩ : ∃ bad : Bool, e = .returned (.bool bad) ∧ (bad = true → ∃ j, j < n ∧ badTok c.vocab (f j)) ∧ (bad = false → ∀ j, j < n → ¬ badTok c.vocab (f j)) := by
   rcases hw with ⟨rfl, hj⟩ | ⟨rfl, hj⟩
   · exact ⟨true, rfl, fun _ => hj, fun h => absurd h (by decide)⟩
   · exact ⟨false, rfl, fun h => absurd h (by decide), fun _ => hj⟩
 subst eb
 have hb1 : Below w.heap.size w W1 := by rw [hW1]; exact below_drewN (Below.refl _ _) q
 have hsz1 : W1.heap.size = w.heap.size := by rw [hW1]; rfl
 have h1 := h.below hb1
 have k1 := (hb1.cell (p := ⟨Y, 1, none⟩) hYl).trans y1
 have Ht1 := hide (Ht.out.below hb1)
 clear hw Hwr hW1
 have Hsame : Hid (∀ code : Nat, createS c L il id n f = code → code ≠ 0 → RefCreated ok w Y d c L il nt vL vI id n f (.returned (.int .i64 code)) W1) := by
   show ∀ code : Nat, _ → _ → _
   intro code hcode h0
   refine ⟨by rw [hcode], nt, by omega, .inl ⟨by rw [hcode]; exact h0, RefTo.of_ref h1 (Only.of_below hb1 _)⟩⟩
 by_cases hno : assoc L id = none
 · have hf := reffind_none Y id vL L ok W1 k1 h1.seqs (by omega) hno
   have Hf := hide hf
   have Hno := hide hno
   have k1' : W1.cell? ⟨Y, 1, none⟩ = some (.slice aL L.length cL) := by rw [← eL]; exact k1
   have HeL := hide eL
   have Hh1 := hide h1
   have Hhb := hide hbad
   have Hhg := hide hgood
   clear hf k1 hno eL h1 h hbad hgood y1
   go_wp2_with fail
   refine Calls_use Hf.out ?_
   clear Hf
   by_cases h8 : 8 ≤ L.length
   · have Hcode : Hid (createS c L il id n f = 1) := by show _ = _; unfold createS; rw [if_neg (by rw [Hno.out]; simp), if_pos (.inl h8)]
     go_wp2
     go_ret
     exact Hsame.out 1 Hcode.out (by omega)
   · by_cases hn0 : n = 0
     · have Hcode : Hid (createS c L il id n f = 1) := by show _ = _; unfold createS; rw [if_neg (by rw [Hno.out]; simp), if_pos (.inr hn0)]
       have Hn0 := hide hn0
       subst hn0
       go_wp2
       go_ret
       exact Hsame.out 1 Hcode.out (by omega)
     · have e8 : decide (8 ≤ (L.length : Int)) = false := by simp; omega
       have en0 : ((n : Int) == 0) = false := by rw [beq_eq_false_iff_ne]; omega
       cases bad with
       | true =>
         have Hcode : Hid (createS c L il id n f = 4) := by show _ = _; unfold createS; rw [if_neg (by rw [Hno.out]; simp), if_neg (by omega), if_pos (Hhb.out rfl)]
         go_wp2
         go_ret
         exact Hsame.out 4 Hcode.out (by omega)
       | false =>
         have hgood := Hhg.out rfl
         have Hgood := hide hgood
         have Hnb : Hid (¬ ∃ j, j < n ∧ badTok c.vocab (f j)) := fun ⟨j, hj, hb⟩ => hgood j hj hb
         clear hgood Hhb Hhg
         by_cases h40 : 40 < n
         · have Hcode : Hid (createS c L il id n f = 5) := by show _ = _; unfold createS; rw [if_neg (by rw [Hno.out]; simp), if_neg (by omega), if_neg Hnb.out, if_pos h40]
           go_wp2
           go_ret
           exact Hsame.out 5 Hcode.out (by omega)
         · obtain ⟨p1, p2, p3, p4⟩ := put_fresh c hc L il (natsOf n f) nt Hh1.out.tails (fun x hx => List.length_pos_iff.1 (Hh1.out.len x hx).1) Hp.out Hfree.out
           have hput := refput_any Y d c hc id ([], 0) (natsOf n f) (.slice none 0 0) (.slice at' n ct) L ok il nt vL vI W1 Hh1.out ⟨none, 0, rfl, by simp, by simp [maxLen], fun h => absurd h (by simp)⟩ (fun _ => rfl) (natsOf_ints Ht1.out Hgood.out) (by rw [natsOf_len]; omega) (by rw [natsOf_len]; simp; omega) hnt (by simp)
           rw [List.nil_append] at hput
           have Hput := hide hput
           have Hp1 := hide p1
           have Hp2 := hide p2
           have Hp3 := hide p3
           clear hput p1 p2 p3
           go_wp2_with fail
           refine Hput.out.mono ?_
           rintro e W3 ⟨hO3, hcase⟩
           clear Hput
           have hOw : Only (RS Y vL vI) w W3 := (Only.of_below hb1 (RS Y vL vI)).trans hO3 (fun k _ hk => .inl hk)
           obtain ⟨en1, en2⟩ := putE_nt c L il ([], 0) (natsOf n f) nt
           rcases hcase with ⟨hfull, rfl, hobj3⟩ | ⟨hfull, v, vI', rfl, hvT, hvok, hvI, hobj3⟩
           · have Hcode : Hid (createS c L il id n f = 6) := by show _ = _; unfold createS; rw [if_neg (by rw [Hno.out]; simp), if_neg (by omega), if_neg Hnb.out, if_neg h40, if_pos (Hp1.out.1 hfull)]
             obtain ⟨hR3, _⟩ := Hh1.out.counted hO3 hobj3 en1
             have HR3 := hide hR3
             have HOw := hide hOw
             clear hR3 hOw hfull hobj3
             go_wp2
             go_ret
             have hba : Below W3.heap.size W3 (W3.alloc (.cells #[.int .i64 id, .slice none 0 0, .int .i64 0] 113)) := (Below.refl _ _).alloc (Nat.le_refl _) _
             exact ⟨by rw [Hcode.out]; rfl, _, en2, .inl ⟨by rw [Hcode.out]; simp, RefTo.of_ref (HR3.out.below hba) (HOw.out.trans (Only.of_below hba (RS Y vL vI)) (fun _ _ h => h))⟩⟩
           · have Hcode : Hid (createS c L il id n f = 0) := by show _ = _; unfold createS; rw [if_neg (by rw [Hno.out]; simp), if_neg (by omega), if_neg Hnb.out, if_neg h40, if_neg (fun q => hfull (Hp1.out.2 q))]
             rw [Hp2.out] at hvI
             obtain ⟨hR3, hk3⟩ := Hh1.out.moved hO3 hobj3 en1 hvI.idle (Nat.le_trans (ilS_len _ _ _ _ _) Hh1.out.ilen) (fun p hp => Hh1.out.ilne p (ilS_mem hp))
             have hvok' : okV ok v := hvok.mono (fun b hb => Hok.out b (by omega))
             have hkey := putE_tail c L il ([], 0) (natsOf n f) nt
             rw [Hp3.out] at hkey
             have htle := putE_tail_le c L il ([], 0) (natsOf n f) nt (by simp)
             obtain ⟨tl, etl⟩ : ∃ tl, tl = (putE c L il ([], 0) (natsOf n f) nt).tail := ⟨_, rfl⟩
             obtain ⟨nt', ent⟩ : ∃ nt', nt' = (putE c L il ([], 0) (natsOf n f) nt).nt := ⟨_, rfl⟩
             rw [← etl] at hkey htle ⊢
             rw [← ent] at hR3 htle en1 en2 hobj3
             have htl : TailsOk c.slots (L ++ [(id, (natsOf n f, tl))]) nt' := by
               refine TailsOk.put (L1 := L) (L2 := []) (M := L) hR3.tails (fun y hy => by simpa using hy) (Nat.le_refl _) ?_ htle (fun h0 y hy e => ?_)
               · show keyOk c.slots (natsOf n f, tl)
                 rw [hkey]; exact endKey_ok _ _ _ (by omega)
               · have hh := congrArg Prod.snd hkey
                 unfold endKey at hh
                 simp only at hh e h0
                 split at hh
                 · omega
                 · exact p4 y.2 (List.mem_map.2 ⟨y, by simpa using hy, rfl⟩) (by rw [e, hh])
             have hnew3 : ∀ k, RS Y vL vI' k → RS Y vL vI k ∨ w.heap.size ≤ k := fun k hk => by
               rcases hk with hk | hk | ⟨a, m, cp, e, hk⟩
               · exact .inl (.inl hk)
               · exact .inl (.inr (.inl hk))
               · right
                 obtain ⟨vs', hv1, _⟩ := hvI
                 have := okV.of_owns hv1 a m cp e
                 rw [hk]; omega
             have Hnew4 : Hid (∀ k, atB vI' k → atB vI k ∨ w.heap.size ≤ k) := fun k ⟨a, m, cp, e, hk⟩ => by
               right
               obtain ⟨vs', hv1, _⟩ := hvI
               have := okV.of_owns hv1 a m cp e
               rw [hk]; omega
             have Hkey := hide hkey
             have Hnew3 := hide hnew3
             have Htl := hide htl
             have HOw := hide hOw
             obtain ⟨F, hF1, hF2⟩ := hR3.seqs
             have HR3 := hide hR3
             have HF2 := hide hF2
             have HvT := hide hvT
             have Hvok := hide hvok'
             obtain ⟨av, cv, ev, _, _⟩ := hvT.slice
             rw [natsOf_len] at ev
             subst ev
             have hY3 := lt_blk hobj3
             have c1 : W3.cell? ⟨Y, 1, none⟩ = some vL := by rw [cell_blk hobj3]; rfl
             have f1 := frozen_blk hobj3 1
             have neY : some Y ≠ vL.ownBlock := fun e => by
               obtain ⟨cur, q⟩ := hR3.own e.symm
               rw [hobj3] at q; injection q with q; injection q with _ q _; exact absurd q (by decide)
             clear hkey hnew3 htl hOw hR3 hF2 hvT hvok' hvok hvI hfull etl ent hk3 HeL
             go_wp2_with fail
             obtain ⟨W4, hW4⟩ : ∃ W4, W4 = W3.alloc (.cells #[.int .i64 id, .slice av n cv, .int .i64 tl] 113) := ⟨_, rfl⟩
             have hb4 : Below W3.heap.size W3 W4 := by rw [hW4]; exact (Below.refl _ _).alloc (Nat.le_refl _) _
             have hn4 : W4.heap[W3.heap.size]? = some (.cells #[.int .i64 id, .slice av n cv, .int .i64 tl] 113 (0, 0)) := by rw [hW4]; exact alloc_new _ _
             have m1 := (hb4.cell (p := ⟨Y, 1, none⟩) hY3).trans c1
             have hobj4 := (hb4.block Y hY3).trans hobj3
             have m2 := frozen_blk hobj4 1
             have hY4 := lt_blk hobj4
             have j0 : W4.cell? ⟨W3.heap.size, 0, none⟩ = some (.int .i64 id) := by rw [cell_blk hn4]; rfl
             have j1 : W4.cell? ⟨W3.heap.size, 1, none⟩ = some (.slice av n cv) := by rw [cell_blk hn4]; rfl
             have j2 : W4.cell? ⟨W3.heap.size, 2, none⟩ = some (.int .i64 tl) := by rw [cell_blk hn4]; rfl
             have hB4l := lt_blk hn4
             have hrow := owns_below' hF1 hb4
             have neB : some W3.heap.size ≠ vL.ownBlock := fun e => by have := (hF1.lt _ e.symm).2; omega
             rw [← hW4]
             clear hW4
             go_region_law ((refine step_append_lies _ (by rfl) _ _ _ (by rfl) 0 113 i1 _ 3 40 Tryz.underlying83 hi' hz0' hz1' hz2' rfl (by omega) vL L.length _ (by simp [Act.eval]) ((hrow.alloc _).drew) ⟨W4.heap.size, 0, none⟩ 1 1 [.int .i64 id, .slice av n cv, .int .i64 tl] (by simp [Act.eval]) (by rfl) (three_new W4 _ _ _ _) (by intro u hu; simp at hu; rcases hu with rfl | rfl | rfl <;> rfl) (by omega) (by unfold maxLen; omega) (by omega) (by simp) (W4.heap.size + 1) (by simp) ?_; intro gg cp W5 hown5 hgrow hat hlt5; have z1 := hgrow.cell ((World.cell?_alloc_past _ _ _ hY4).trans m1) neY; have z2 := (World.frozen?_of_block (hgrow.block Y (by simp; omega) neY)).trans ((World.frozen?_alloc_past _ _ _ hY4).trans m2)))
             all_goals go_wp2
             all_goals go_ret
             all_goals
               have hb5 : Below W3.heap.size W3 (W4.alloc (.cells #[.int .i64 id, .slice av n cv, .int .i64 tl] 113)).drew := (hb4.alloc hb4.size _).drew
               refine ⟨by rw [Hcode.out]; rfl, nt', en2, .inr ⟨Hcode.out, ?_⟩⟩
               rw [← Hkey.out]
               refine RefTo.trans HOw.out Hnew3.out Hnew4.out (RefI.push (k := (natsOf n f, tl)) HR3.out HF2.out ((hrow.alloc _).drew) hb5 hgrow ?_ hown5 HvT.out Hvok.out Htl.out (by omega) ⟨by rw [natsOf_len]; omega, by rw [natsOf_len]; omega⟩ (natsOf_tok Hgood.out))
               rcases hat with hat | hat
               · exact .inl hat
               · right; have := hb4.size; omega
 · obtain ⟨k2, hk2⟩ := some_of_ne hno
   obtain ⟨M1, M2, eM, hM1⟩ := assoc_split hk2
   have Hcode : Hid (createS c L il id n f = 2) := by show _ = _; unfold createS; rw [if_pos hno]
   have hf := reffind_at Y id vL M1 M2 k2 ok W1 k1 (by rw [← eM]; exact h1.seqs) (by rw [← eM]; omega) hM1
   have Hf := hide hf
   have hM1l : M1.length ≤ 1000 := by
     have : M1.length < L.length := by rw [eM]; simp
     omega
   clear hf hno hk2 eM h h1 hbad hgood
   go_wp2_with fail
   refine Calls_use Hf.out ?_
   go_wp2
   go_ret
   exact Hsame.out 2 Hcode.out (by omega)
end Go.Proofs.YtlmflighkkgikaaGreat
