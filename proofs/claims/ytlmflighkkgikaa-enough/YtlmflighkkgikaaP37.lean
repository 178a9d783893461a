import Derived.Test.YtlmflighkkgikaaP35

namespace Go.Proofs.Ytlmflighkkgikaa
open Go.RowKit
attribute [local go_sem ↓] Go.wp_at_zero Go.wp_at_succ
theorem htokens_none (F ok : Nat → Prop) (g : Parts) (c : Cfg) (L : List (Int × Key)) (il : List (List Nat)) (id : Int) (w : World) (h : HoardI F ok w g c L il) (hid : -9223372036854775808 ≤ id ∧ id ≤ 9223372036854775807) (hno : assoc L id = none) :
   Calls Try.prog 26 #[.pointer (some ⟨g.X, 0, none⟩), .int .i64 id] w fun e w' => e = .returned (.tuple #[.slice none 0 0, .int .i64 3]) ∧ w' = w := by
 obtain ⟨x0, x2, x5, x7, x8, x13, hXl⟩ := h.cells
 have hlook := h.look_none id hid hno
 clear hno h
 go_enter Try.func26, Try.ntmps26
 go_wp2
 go_ret2
 exact ⟨rfl, rfl⟩
set_option maxRecDepth 100000 in
set_option maxHeartbeats 1000000 in
theorem htokens_some (F ok : Nat → Prop) (g : Parts) (c : Cfg) (hc : c.ok) (L : List (Int × Key)) (il : List (List Nat)) (id : Int) (k : Key) (w : World) (h : HoardI F ok w g c L il) (hid : -9223372036854775808 ≤ id ∧ id ≤ 9223372036854775807) (hk : assoc L id = some k) :
   Calls Try.prog 26 #[.pointer (some ⟨g.X, 0, none⟩), .int .i64 id] w fun e w' => ∃ r, e = .returned (.tuple #[r, .int .i64 0]) ∧ w'.ownsRow w.heap.size 3 1 r k.1.length ((List.range k.1.length).map fun j => .int .i64 (tkI k.1 j)) ∧ Below w.heap.size w w' := by
 obtain ⟨x0, x2, x5, x7, x8, x13, hXl⟩ := h.cells
 obtain ⟨B, b, U, hb, hs, _, _, _, hlook⟩ := h.seq id hid hk
 have ht := tokens_any ok c hc B U k w hs
 rw [hb] at ht
 unfold blkV at ht
 have Ht := hide ht
 clear ht hs hk h
 go_enter Try.func26, Try.ntmps26
 go_wp2_with fail
 refine Ht.out.mono ?_
 rintro e w1 ⟨r, rfl, hr, hb1⟩
 have Hr := hide hr
 clear hr Ht
 go_wp2
 go_ret2
 exact ⟨r, rfl, Hr.out, hb1⟩
theorem put_nil (X : Nat) (id : Int) (a : Option Addr) (cp : Nat) (vr : Value) (w : World) :
   Calls Try.prog 31 #[.pointer (some ⟨X, 0, none⟩), .int .i64 id, .slice a 0 cp, vr] w fun e w' => e = .returned (.int .i64 0) ∧ w' = w := by
 go_enter Try.func31, Try.ntmps31
 go_wp2
 go_ret
 exact ⟨rfl, rfl⟩
theorem happend_none (F ok : Nat → Prop) (g : Parts) (c : Cfg) (L : List (Int × Key)) (il : List (List Nat)) (id : Int) (vt : Value) (w : World) (h : HoardI F ok w g c L il) (hid : -9223372036854775808 ≤ id ∧ id ≤ 9223372036854775807) (hno : assoc L id = none) :
   Calls Try.prog 14 #[.pointer (some ⟨g.X, 0, none⟩), .int .i64 id, vt] w fun e w' => e = .returned (.int .i64 3) ∧ w' = w := by
 obtain ⟨x0, x2, x5, x7, x8, x13, hXl⟩ := h.cells
 have hlook := h.look_none id hid hno
 clear hno h
 go_enter Try.func14, Try.ntmps14
 go_wp2
 go_ret
 exact ⟨rfl, rfl⟩
open Classical in
noncomputable def appendS (c : Cfg) (k0 : Key) (H0 : List Key) (il : List (List Nat)) (n : Nat) (f : Nat → Int) : Nat :=
 if ∃ j, j < n ∧ badTok c.vocab (f j) then 4 else if 40 < k0.1.length + n then 5 else if n = 0 then 0 else if fullS c k0 H0 il (k0.1 ++ natsOf n f) then 6 else 0
def HAppended (F ok : Nat → Prop) (w : World) (g : Parts) (c : Cfg) (L1 L2 : List (Int × Key)) (il : List (List Nat)) (id : Int) (k0 : Key) (n : Nat) (f : Nat → Int) (tn : Nat) (e : Ending) (w' : World) : Prop :=
 e = .returned (.int .i64 (appendS c k0 ((L1 ++ L2).map (·.2)) il n f)) ∧ (((appendS c k0 ((L1 ++ L2).map (·.2)) il n f ≠ 0 ∨ n = 0) ∧ Below w.heap.size w w') ∨
   (appendS c k0 ((L1 ++ L2).map (·.2)) il n f = 0 ∧ n ≠ 0 ∧ Moves (fun k => F k ∨ k = g.SM) w w' ∧ HoardI (grow F w) ok w' g c (L1 ++ (id, endKey c.slots (k0.1 ++ natsOf n f) tn) :: L2) (ilS c k0 ((L1 ++ L2).map (·.2)) il (k0.1 ++ natsOf n f))))
set_option maxRecDepth 100000 in
set_option maxHeartbeats 2000000 in
theorem happend_some (F ok : Nat → Prop) (g : Parts) (c : Cfg) (hc : c.ok) (L1 L2 : List (Int × Key)) (il : List (List Nat)) (id : Int) (k0 : Key) (n : Nat) (f : Nat → Int) (vt : Value) (tn : Nat) (w : World) (h : HoardI F ok w g c (L1 ++ (id, k0) :: L2) il) (hid : -9223372036854775808 ≤ id ∧ id ≤ 9223372036854775807) (hk : assoc (L1 ++ (id, k0) :: L2) id = some k0) (ht : Ints w vt n f) (htn : tn ≠ 0 ∧ ∀ h ∈ (L1 ++ L2).map (·.2), h.2 ≠ tn) (hok : ∀ b, w.heap.size ≤ b → ok b) :
   Calls Try.prog 14 #[.pointer (some ⟨g.X, 0, none⟩), .int .i64 id, vt] w fun e w' => HAppended F ok w g c L1 L2 il id k0 n f tn e w' := by
 obtain ⟨x0, x2, x5, x7, x8, x13, hXl⟩ := h.cells
 obtain ⟨B, b, U, hb, hs, hne, hl40, htk, hlook⟩ := h.seq id hid hk
 have hroom := room_any ok c hc B U k0 w hs
 rw [hb] at hroom
 unfold blkV at hroom
 have hcf := containsfunc_any g.X n c hc vt f w x5 ht
 have Hcf := hide hcf
 have Ht := hide ht
 have Hh := hide h
 have Hroom := hide hroom
 obtain ⟨at', ct, rfl, ht1, ht2, _⟩ := ht
 unfold maxLen at ht2
 clear hcf hroom hs hk h
 go_enter Try.func14, Try.ntmps14
 go_wp2_with fail
 refine Hcf.out.mono ?_
 rintro e w1 ⟨hcf, rfl⟩
 clear Hcf
 rcases hcf with ⟨rfl, hbad⟩ | ⟨rfl, hgood⟩
 · have hcode : appendS c k0 ((L1 ++ L2).map (·.2)) il n f = 4 := by unfold appendS; rw [if_pos hbad]
   have Hcode := hide hcode
   clear hcode hbad
   go_wp2
   go_ret
   exact ⟨by rw [Hcode.out]; rfl, .inl ⟨.inl (by rw [Hcode.out]; simp), Below.refl _ _⟩⟩
 · have hnbad : ¬ ∃ j, j < n ∧ badTok c.vocab (f j) := fun ⟨j, hj, hb⟩ => hgood j hj hb
   go_wp2_with fail
   refine Hroom.out.mono ?_
   rintro e w2 ⟨rfl, hb2⟩
   clear Hroom
   by_cases h40 : 40 < k0.1.length + n
   · have hcode : appendS c k0 ((L1 ++ L2).map (·.2)) il n f = 5 := by unfold appendS; rw [if_neg hnbad, if_pos h40]
     have Hcode := hide hcode
     have j1 : 40 - (k0.1.length : Int) < (n : Int) := by omega
     clear hcode hgood hnbad
     go_wp2
     go_ret
     exact ⟨by rw [Hcode.out]; rfl, .inl ⟨.inl (by rw [Hcode.out]; simp), hb2⟩⟩
   · have j1 : ¬ 40 - (k0.1.length : Int) < (n : Int) := by omega
     by_cases hn0 : n = 0
     · have hcode : appendS c k0 ((L1 ++ L2).map (·.2)) il n f = 0 := by unfold appendS; rw [if_neg hnbad, if_neg h40, if_pos hn0]
       have Hcode := hide hcode
       have Hn0 := hide hn0
       have hput : Calls Try.prog 31 #[.pointer (some ⟨g.X, 0, none⟩), .int .i64 id, .slice at' n ct, .slice none 0 0] w2 fun e w' => e = .returned (.int .i64 0) ∧ w' = w2 := by
         rw [hn0]; exact put_nil g.X id at' ct (.slice none 0 0) w2
       have Hput := hide hput
       clear hcode hgood hnbad hn0 hput
       go_wp2_with fail
       refine Calls_use Hput.out ?_
       go_wp2
       go_ret
       exact ⟨by rw [Hcode.out]; rfl, .inl ⟨.inr Hn0.out, hb2⟩⟩
     · have hput := hput_old F ok g c hc L1 L2 il id k0 (natsOf n f) _ (.slice none 0 0) 0 tn w2 (Hh.out.below hb2) hid (natsOf_ne (by omega)) (by rw [natsOf_len]; omega) (natsOf_tok hgood) ((natsOf_ints Ht.out hgood).below hb2) (.inl ⟨rfl, rfl⟩) (by omega) htn (fun x hx => hok x (Nat.le_trans hb2.size hx))
       have Hput := hide hput
       have Hnb := hide hnbad
       clear hput hgood hnbad
       go_wp2_with fail
       refine Hput.out.mono ?_
       rintro e w3 (⟨hf, rfl, hb⟩ | ⟨hf, rfl, hM, hH⟩)
       · have hcode : appendS c k0 ((L1 ++ L2).map (·.2)) il n f = 6 := by unfold appendS; rw [if_neg Hnb.out, if_neg h40, if_neg hn0, if_pos hf]
         have Hcode := hide hcode
         clear hcode hf Hput
         go_wp2
         go_ret
         exact ⟨by rw [Hcode.out]; rfl, .inl ⟨.inl (by rw [Hcode.out]; simp), hb2.trans (hb.mono hb2.size)⟩⟩
       · have hcode : appendS c k0 ((L1 ++ L2).map (·.2)) il n f = 0 := by unfold appendS; rw [if_neg Hnb.out, if_neg h40, if_neg hn0, if_neg hf]
         have Hcode := hide hcode
         have HH := hide hH
         clear hcode hf hH Hput
         go_wp2
         go_ret
         refine ⟨by rw [Hcode.out]; rfl, .inr ⟨Hcode.out, hn0, (Moves.of_below hb2).trans (hM.mono (fun k _ hk => .inl hk)), ?_⟩⟩
         obtain ⟨B', free', q1, q2⟩ := HH.out.ex
         have hgm : ∀ k, grow F w2 k → grow F w1 k := fun k hk => hk.elim .inl (fun hle => .inr (Nat.le_trans hb2.size hle))
         exact ⟨⟨B', free', q1.mono hgm, q2⟩, HH.out.ids, HH.out.ne, HH.out.few, not_grow_sm Hh.out.sm, HH.out.sm.2⟩
theorem hfork_none (F ok : Nat → Prop) (g : Parts) (c : Cfg) (L : List (Int × Key)) (il : List (List Nat)) (id other : Int) (w : World) (h : HoardI F ok w g c L il) (hid : -9223372036854775808 ≤ id ∧ id ≤ 9223372036854775807) (hot : -9223372036854775808 ≤ other ∧ other ≤ 9223372036854775807) (hno : assoc L id = none) :
   Calls Try.prog 21 #[.pointer (some ⟨g.X, 0, none⟩), .int .i64 id, .int .i64 other] w fun e w' => e = .returned (.int .i64 3) ∧ w' = w := by
 obtain ⟨x0, x2, x5, x7, x8, x13, hXl⟩ := h.cells
 have hlook := h.look_none id hid hno
 by_cases ho : assoc L other = none
 · have hlook2 := h.look_none other hot ho
   clear hno h ho
   go_enter Try.func21, Try.ntmps21
   go_wp2
   go_ret
   exact ⟨rfl, rfl⟩
 · obtain ⟨k, hk⟩ := some_of_ne ho
   obtain ⟨B, b, U, hb, _, _, _, _, hlook2⟩ := h.seq other hot hk
   clear hno h ho hk
   go_enter Try.func21, Try.ntmps21
   go_wp2
   go_ret
   exact ⟨rfl, rfl⟩
def forkS (L : List (Int × Key)) (other : Int) : Nat := if assoc L other ≠ none then 2 else if 8 ≤ L.length then 1 else 0
def HForked (F ok : Nat → Prop) (w : World) (g : Parts) (c : Cfg) (L : List (Int × Key)) (il : List (List Nat)) (other : Int) (k : Key) (e : Ending) (w' : World) : Prop :=
 e = .returned (.int .i64 (forkS L other)) ∧ ((forkS L other ≠ 0 ∧ w' = w) ∨ (forkS L other = 0 ∧ Moves (fun k => F k ∨ k = g.SM) w w' ∧ HoardI (grow F w) ok w' g c (L ++ [(other, k)]) il))
set_option maxRecDepth 100000 in
set_option maxHeartbeats 1000000 in
theorem hfork_some (F ok : Nat → Prop) (g : Parts) (c : Cfg) (hc : c.ok) (L : List (Int × Key)) (il : List (List Nat)) (id other : Int) (k : Key) (w : World) (h : HoardI F ok w g c L il) (hid : -9223372036854775808 ≤ id ∧ id ≤ 9223372036854775807) (hot : -9223372036854775808 ≤ other ∧ other ≤ 9223372036854775807) (hk : assoc L id = some k) :
   Calls Try.prog 21 #[.pointer (some ⟨g.X, 0, none⟩), .int .i64 id, .int .i64 other] w fun e w' => HForked F ok w g c L il other k e w' := by
 obtain ⟨x0, x2, x5, x7, x8, x13, hXl⟩ := h.cells
 have hfew := h.few
 have hlen := h.len
 by_cases ho : assoc L other = none
 · obtain ⟨B, free, hS, hM⟩ := h.ex
   obtain ⟨L1, L2, eL, _⟩ := assoc_split hk
   have hm : (id, k) ∈ L := by rw [eL]; simp
   have hne := h.ne _ hm
   obtain ⟨b, hb⟩ := some_of_ne (hS.mem (mem_map_snd hm) hne)
   have hlook : (Instr.lookup 71 (.map (some g.SM)) (.int .i64 id) true).run Try.prog w = .ok (.tuple #[.pointer (some ⟨b, 0, none⟩), .bool true]) w := by
     have := hM.look (t := 71) Try.underlying3 Try.underlying71 (Try.zero_ptr w) id (int_wf id hid.1 hid.2)
     rw [hk] at this
     simp only [Option.map_some, hb, Option.getD_some, Option.isSome_some] at this
     exact this
   have hlook2 := h.look_none other hot ho
   by_cases h8 : 8 ≤ L.length
   · have hcode : forkS L other = 1 := by unfold forkS; rw [if_neg (by simp [ho]), if_pos h8]
     have Hcode := hide hcode
     clear hcode ho hk h hS hM eL hm
     go_enter Try.func21, Try.ntmps21
     go_wp2
     go_ret
     exact ⟨by rw [Hcode.out]; rfl, .inl ⟨by rw [Hcode.out]; simp, rfl⟩⟩
   · have hcode : forkS L other = 0 := by unfold forkS; rw [if_neg (by simp [ho]), if_neg h8]
     have huse := use_any F ok g c hc (L.map (·.2)) il B free k w hS (.inr (.inl ⟨k, mem_map_snd hm, on_self _ _ hne⟩)) (by simp; omega)
     rw [hb] at huse
     unfold blkV at huse
     have Huse := hide huse
     have Hcode := hide hcode
     have Ho := hide ho
     have Hh := hide h
     have HM := hide hM
     have HS := hide hS
     have Hm := hide hm
     clear huse hcode ho hk h hS hM eL hm
     go_enter Try.func21, Try.ntmps21
     go_wp2_with fail
     refine Huse.out.mono ?_
     rintro e w1 ⟨rfl, hS1, hM1⟩
     have hSM1 : w1.heap[g.SM]? = w.heap[g.SM]? := hM1.only.block g.SM Hh.out.sm.2 Hh.out.sm.1
     have hmap1 := HM.out.keep hSM1
     obtain ⟨w2, hup, hmv, hg2, hs2⟩ := hmap1.putk Try.underlying3 (t := 71) Try.underlying71 (by unfold maxLen; omega) other (int_wf other hot.1 hot.2) (.pointer (some ⟨b, 0, none⟩))
     obtain ⟨arr1, ax0, ax8⟩ := store_x13 hS1
     have z13 : w1.cell? ⟨g.X, 13, none⟩ = some (.map (some g.SM)) := by rw [cell_blk ax0]; exact ax8
     have HS1 := hide hS1
     have Hmv := hide hmv
     have Hg2 := hide hg2
     clear hS1 hmv hg2 Huse ax0 ax8 hSM1
     go_wp2
     go_ret
     refine ⟨by rw [Hcode.out]; rfl, .inr ⟨Hcode.out, ?_, ?_⟩⟩
     · refine ⟨(hM1.only.mono (fun k _ hk => .inl hk)).grown Hg2.out (fun x hx _ => .inr (by injection hx with hx; exact hx.symm)), fun e he => (hM1.kept e he).trans (fun x cur fr hx => ?_)⟩
       rw [Hg2.out.block x (lt_blk hx) (fun e' => by
         injection e' with e'
         obtain ⟨es, cl, ho⟩ := hmap1.obj
         rw [← e', hx] at ho
         cases ho)]
       exact hx
     · have hnS : ∀ k, grow F w k → k ≠ g.SM := fun k hk e => not_grow_sm Hh.out.sm (by rw [← e]; exact hk)
       have hS2 := HS1.out.other_map hmap1 Hg2.out hnS
       have hil : notUp k.1 il = il := by
         unfold notUp
         apply List.filter_eq_self.2
         intro p hp
         simp only [decide_eq_true_eq]
         intro hpf
         obtain ⟨q1, q2, _⟩ := HS.out.pure.whole p hp
         exact HS.out.pure.out p hp ⟨k, mem_map_snd Hm.out, q1, .inr ⟨rfl, q2, hpf⟩⟩
       rw [hil] at hS2
       refine ⟨⟨B, free, hS2.perm hc ?_, ?_⟩, ?_, fun x hx => ?_, by simp; omega, not_grow_sm Hh.out.sm, ?_⟩
       · rw [List.map_append]
         exact (List.perm_append_singleton _ _).symm
       · have e1 : ((assoc L other).map fun k => blkV (B k)) = none := by rw [Ho.out]; rfl
         have hmv' := Hmv.out
         rw [if_pos e1] at hmv'
         rw [List.length_append, List.length_singleton]
         have e2 : (fun y => if y = other then some (Value.pointer (some ⟨b, 0, none⟩)) else (assoc L y).map fun k => blkV (B k)) = fun y => (assoc (L ++ [(other, k)]) y).map fun k => blkV (B k) := by
           funext y
           rw [assoc_append, assoc_cons, assoc_nil]
           by_cases e : y = other
           · rw [if_pos e, e, Ho.out, if_pos rfl]
             show _ = some (blkV (B k))
             rw [hb]; rfl
           · rw [if_neg e, if_neg (fun e' => e e'.symm)]
             cases assoc L y <;> rfl
         rw [e2] at hmv'
         exact hmv'
       · rw [List.map_append, List.nodup_append]
         refine ⟨Hh.out.ids, by simp, fun a ha b hb e => ?_⟩
         simp only [List.map_cons, List.map_nil, List.mem_singleton] at hb
         subst hb e
         obtain ⟨x, hx, e'⟩ := List.mem_map.1 ha
         exact assoc_none.1 Ho.out x hx e'
       · rcases List.mem_append.1 hx with hx | hx
         · exact Hh.out.ne x hx
         · rw [List.mem_singleton] at hx
           subst hx
           exact hne
       · have := Hh.out.sm.2
         have := hM1.size
         omega
 · obtain ⟨B, b, U, hb, _, _, _, _, hlook⟩ := h.seq id hid hk
   obtain ⟨k2, hk2⟩ := some_of_ne ho
   obtain ⟨B2, b2, U2, hb2, _, _, _, _, hlook2⟩ := h.seq other hot hk2
   have hcode : forkS L other = 2 := by unfold forkS; rw [if_pos ho]
   have Hcode := hide hcode
   clear hcode ho hk h hk2
   go_enter Try.func21, Try.ntmps21
   go_wp2
   go_ret
   exact ⟨by rw [Hcode.out]; rfl, .inl ⟨by rw [Hcode.out]; simp, rfl⟩⟩
theorem hfree_none (F ok : Nat → Prop) (g : Parts) (c : Cfg) (L : List (Int × Key)) (il : List (List Nat)) (id : Int) (w : World) (h : HoardI F ok w g c L il) (hid : -9223372036854775808 ≤ id ∧ id ≤ 9223372036854775807) (hno : assoc L id = none) :
   Calls Try.prog 19 #[.pointer (some ⟨g.X, 0, none⟩), .int .i64 id] w fun e w' => e = .returned (.int .i64 3) ∧ w' = w := by
 obtain ⟨x0, x2, x5, x7, x8, x13, hXl⟩ := h.cells
 have hlook := h.look_none id hid hno
 clear hno h
 go_enter Try.func19, Try.ntmps19
 go_wp2
 go_ret
 exact ⟨rfl, rfl⟩
end Go.Proofs.Ytlmflighkkgikaa
