import Derived.Test.YtlmflighkkgikaaGreatP30
import Derived.Test.YtlmflighkkgikaaGreatP32

namespace Go.Proofs.YtlmflighkkgikaaGreat
open Go.RowKit
attribute [local go_sem ↓] Go.wp_at_zero Go.wp_at_succ
theorem htokens_none (F ok : Nat → Prop) (g : Parts) (c : Cfg) (L : List (Int × Key)) (il : List (List Nat)) (id : Int) (w : World) (h : HoardI F ok w g c L il) (hid : -9223372036854775808 ≤ id ∧ id ≤ 9223372036854775807) (hno : assoc L id = none) :
   Calls Tryz.prog 15 #[.pointer (some ⟨g.X, 0, none⟩), .int .i64 id] w fun e w' => e = .returned (.tuple #[.slice none 0 0, .int .i64 3]) ∧ w' = w := by
 obtain ⟨x0, x2, x5, x7, x8, x13, hXl⟩ := h.cells
 have hlook := h.look_none id hid hno
 clear hno h
 go_enter Tryz.func15, Tryz.ntmps15
 go_wp2
 go_ret2
 exact ⟨rfl, rfl⟩
set_option maxRecDepth 100000 in
set_option maxHeartbeats 1000000 in
theorem htokens_some (F ok : Nat → Prop) (g : Parts) (c : Cfg) (hc : c.ok) (L : List (Int × Key)) (il : List (List Nat)) (id : Int) (k : Key) (w : World) (h : HoardI F ok w g c L il) (hid : -9223372036854775808 ≤ id ∧ id ≤ 9223372036854775807) (hk : assoc L id = some k) :
   Calls Tryz.prog 15 #[.pointer (some ⟨g.X, 0, none⟩), .int .i64 id] w fun e w' => ∃ r, e = .returned (.tuple #[r, .int .i64 0]) ∧ w'.ownsRow w.heap.size 3 1 r k.1.length ((List.range k.1.length).map fun j => .int .i64 (tkI k.1 j)) ∧ Below w.heap.size w w' := by
 obtain ⟨x0, x2, x5, x7, x8, x13, hXl⟩ := h.cells
 obtain ⟨B, b, U, hb, hs, _, _, _, hlook⟩ := h.seq id hid hk
 have ht := tokens_any ok c hc B U k w hs
 rw [hb] at ht
 unfold blkV at ht
 have Ht := hide ht
 clear ht hs hk h
 go_enter Tryz.func15, Tryz.ntmps15
 go_wp2_with fail
 refine Ht.out.mono ?_
 rintro e w1 ⟨r, rfl, hr, hb1⟩
 have Hr := hide hr
 clear hr Ht
 go_wp2
 go_ret2
 exact ⟨r, rfl, Hr.out, hb1⟩
theorem put_nil (X : Nat) (id : Int) (a : Option Addr) (cp : Nat) (vr : Value) (w : World) :
   Calls Tryz.prog 37 #[.pointer (some ⟨X, 0, none⟩), .int .i64 id, .slice a 0 cp, vr] w fun e w' => e = .returned (.int .i64 0) ∧ w' = w := by
 go_enter Tryz.func37, Tryz.ntmps37
 go_wp2
 go_ret
 exact ⟨rfl, rfl⟩
theorem happend_none (F ok : Nat → Prop) (g : Parts) (c : Cfg) (L : List (Int × Key)) (il : List (List Nat)) (id : Int) (vt : Value) (w : World) (h : HoardI F ok w g c L il) (hid : -9223372036854775808 ≤ id ∧ id ≤ 9223372036854775807) (hno : assoc L id = none) :
   Calls Tryz.prog 45 #[.pointer (some ⟨g.X, 0, none⟩), .int .i64 id, vt] w fun e w' => e = .returned (.int .i64 3) ∧ w' = w := by
 obtain ⟨x0, x2, x5, x7, x8, x13, hXl⟩ := h.cells
 have hlook := h.look_none id hid hno
 clear hno h
 go_enter Tryz.func45, Tryz.ntmps45
 go_wp2
 go_ret
 exact ⟨rfl, rfl⟩
open Classical in
noncomputable def appendS (c : Cfg) (k0 : Key) (H0 : List Key) (il : List (List Nat)) (n : Nat) (f : Nat → Int) : Nat :=
 if ∃ j, j < n ∧ badTok c.vocab (f j) then 4 else if 40 < k0.1.length + n then 5 else if n = 0 then 0 else if fullS c k0 H0 il (k0.1 ++ natsOf n f) then 6 else 0
def HAppended (F ok : Nat → Prop) (w : World) (g : Parts) (c : Cfg) (L1 L2 : List (Int × Key)) (il : List (List Nat)) (id : Int) (k0 : Key) (n : Nat) (f : Nat → Int) (tn : Nat) (e : Ending) (w' : World) : Prop :=
 e = .returned (.int .i64 (appendS c k0 ((L1 ++ L2).map (·.2)) il n f)) ∧ (((appendS c k0 ((L1 ++ L2).map (·.2)) il n f ≠ 0 ∨ n = 0) ∧ Below w.heap.size w w') ∨
   (appendS c k0 ((L1 ++ L2).map (·.2)) il n f = 0 ∧ n ≠ 0 ∧ Moves (fun k => F k ∨ k = g.SM) w w' ∧ HoardI (grow F w) ok w' g c (L1 ++ (id, endKey c.slots (k0.1 ++ natsOf n f) tn) :: L2) (ilS c k0 ((L1 ++ L2).map (·.2)) il (k0.1 ++ natsOf n f))))
set_option maxRecDepth 100000 in
set_option maxHeartbeats 2000000 in
theorem happend_some (F ok : Nat → Prop) (g : Parts) (c : Cfg) (hc : c.ok) (L1 L2 : List (Int × Key)) (il : List (List Nat)) (id : Int) (k0 : Key) (n : Nat) (f : Nat → Int) (vt : Value) (tn : Nat) (w : World) (h : HoardI F ok w g c (L1 ++ (id, k0) :: L2) il) (hid : -9223372036854775808 ≤ id ∧ id ≤ 9223372036854775807) (hk : assoc (L1 ++ (id, k0) :: L2) id = some k0) (ht : Ints w vt n f) (htn : tn ≠ 0 ∧ ∀ h ∈ (L1 ++ L2).map (·.2), h.2 ≠ tn) (hok : ∀ b, w.heap.size ≤ b → ok b) :
   Calls Tryz.prog 45 #[.pointer (some ⟨g.X, 0, none⟩), .int .i64 id, vt] w fun e w' => HAppended F ok w g c L1 L2 il id k0 n f tn e w' := by
 obtain ⟨x0, x2, x5, x7, x8, x13, hXl⟩ := h.cells
 obtain ⟨B, b, U, hb, hs, hne, hl40, htk, hlook⟩ := h.seq id hid hk
 have hroom := room_any ok c hc B U k0 w hs
 rw [hb] at hroom
 unfold blkV at hroom
 have hcf := containsfunc_any g.X n c hc vt f w x5 ht
 have Hcf := hide hcf
 have Ht := hide ht
 have Hh := hide h
 have Hroom := hide hroom
 obtain ⟨at', ct, rfl, ht1, ht2, _⟩ := ht
 unfold maxLen at ht2
 clear hcf hroom hs hk h
 go_enter Tryz.func45, Tryz.ntmps45
 go_wp2_with fail
 refine Hcf.out.mono ?_
 rintro e w1 ⟨hcf, rfl⟩
 clear Hcf
 rcases hcf with ⟨rfl, hbad⟩ | ⟨rfl, hgood⟩
 · have hcode : appendS c k0 ((L1 ++ L2).map (·.2)) il n f = 4 := by unfold appendS; rw [if_pos hbad]
   have Hcode := hide hcode
   clear hcode hbad
   go_wp2
   go_ret
   exact ⟨by rw [Hcode.out]; rfl, .inl ⟨.inl (by rw [Hcode.out]; simp), Below.refl _ _⟩⟩
 · have hnbad : ¬ ∃ j, j < n ∧ badTok c.vocab (f j) := fun ⟨j, hj, hb⟩ => hgood j hj hb
   go_wp2_with fail
   refine Hroom.out.mono ?_
   rintro e w2 ⟨rfl, hb2⟩
   clear Hroom
   by_cases h40 : 40 < k0.1.length + n
   · have hcode : appendS c k0 ((L1 ++ L2).map (·.2)) il n f = 5 := by unfold appendS; rw [if_neg hnbad, if_pos h40]
     have Hcode := hide hcode
     have j1 : 40 - (k0.1.length : Int) < (n : Int) := by omega
     clear hcode hgood hnbad
     go_wp2
     go_ret
     exact ⟨by rw [Hcode.out]; rfl, .inl ⟨.inl (by rw [Hcode.out]; simp), hb2⟩⟩
   · have j1 : ¬ 40 - (k0.1.length : Int) < (n : Int) := by omega
     by_cases hn0 : n = 0
     · have hcode : appendS c k0 ((L1 ++ L2).map (·.2)) il n f = 0 := by unfold appendS; rw [if_neg hnbad, if_neg h40, if_pos hn0]
       have Hcode := hide hcode
       have Hn0 := hide hn0
       have hput : Calls Tryz.prog 37 #[.pointer (some ⟨g.X, 0, none⟩), .int .i64 id, .slice at' n ct, .slice none 0 0] w2 fun e w' => e = .returned (.int .i64 0) ∧ w' = w2 := by
         rw [hn0]; exact put_nil g.X id at' ct (.slice none 0 0) w2
       have Hput := hide hput
       clear hcode hgood hnbad hn0 hput
       go_wp2_with fail
       refine Calls_use Hput.out ?_
       go_wp2
       go_ret
       exact ⟨by rw [Hcode.out]; rfl, .inl ⟨.inr Hn0.out, hb2⟩⟩
     · have hput := hput_old F ok g c hc L1 L2 il id k0 (natsOf n f) _ (.slice none 0 0) 0 tn w2 (Hh.out.below hb2) hid (natsOf_ne (by omega)) (by rw [natsOf_len]; omega) (natsOf_tok hgood) ((natsOf_ints Ht.out hgood).below hb2) (.inl ⟨rfl, rfl⟩) (by omega) htn (fun x hx => hok x (Nat.le_trans hb2.size hx))
       have Hput := hide hput
       have Hnb := hide hnbad
       clear hput hgood hnbad
       go_wp2_with fail
       refine Hput.out.mono ?_
       rintro e w3 (⟨hf, rfl, hb⟩ | ⟨hf, rfl, hM, hH⟩)
       · have hcode : appendS c k0 ((L1 ++ L2).map (·.2)) il n f = 6 := by unfold appendS; rw [if_neg Hnb.out, if_neg h40, if_neg hn0, if_pos hf]
         have Hcode := hide hcode
         clear hcode hf Hput
         go_wp2
         go_ret
         exact ⟨by rw [Hcode.out]; rfl, .inl ⟨.inl (by rw [Hcode.out]; simp), hb2.trans (hb.mono hb2.size)⟩⟩
       · have hcode : appendS c k0 ((L1 ++ L2).map (·.2)) il n f = 0 := by unfold appendS; rw [if_neg Hnb.out, if_neg h40, if_neg hn0, if_neg hf]
         have Hcode := hide hcode
         have HH := hide hH
         clear hcode hf hH Hput
         go_wp2
         go_ret
         refine ⟨by rw [Hcode.out]; rfl, .inr ⟨Hcode.out, hn0, (Moves.of_below hb2).trans (hM.mono (fun k _ hk => .inl hk)), ?_⟩⟩
         obtain ⟨B', free', q1, q2⟩ := HH.out.ex
         have hgm : ∀ k, grow F w2 k → grow F w1 k := fun k hk => hk.elim .inl (fun hle => .inr (Nat.le_trans hb2.size hle))
         exact ⟨⟨B', free', q1.mono hgm, q2⟩, HH.out.ids, HH.out.ne, HH.out.few, not_grow_sm Hh.out.sm, HH.out.sm.2⟩
theorem hfork_none (F ok : Nat → Prop) (g : Parts) (c : Cfg) (L : List (Int × Key)) (il : List (List Nat)) (id other : Int) (w : World) (h : HoardI F ok w g c L il) (hid : -9223372036854775808 ≤ id ∧ id ≤ 9223372036854775807) (hot : -9223372036854775808 ≤ other ∧ other ≤ 9223372036854775807) (hno : assoc L id = none) :
   Calls Tryz.prog 23 #[.pointer (some ⟨g.X, 0, none⟩), .int .i64 id, .int .i64 other] w fun e w' => e = .returned (.int .i64 3) ∧ w' = w := by
 obtain ⟨x0, x2, x5, x7, x8, x13, hXl⟩ := h.cells
 have hlook := h.look_none id hid hno
 by_cases ho : assoc L other = none
 · have hlook2 := h.look_none other hot ho
   clear hno h ho
   go_enter Tryz.func23, Tryz.ntmps23
   go_wp2
   go_ret
   exact ⟨rfl, rfl⟩
 · obtain ⟨k, hk⟩ := some_of_ne ho
   obtain ⟨B, b, U, hb, _, _, _, _, hlook2⟩ := h.seq other hot hk
   clear hno h ho hk
   go_enter Tryz.func23, Tryz.ntmps23
   go_wp2
   go_ret
   exact ⟨rfl, rfl⟩
def forkS (L : List (Int × Key)) (other : Int) : Nat := if assoc L other ≠ none then 2 else if 8 ≤ L.length then 1 else 0
def HForked (F ok : Nat → Prop) (w : World) (g : Parts) (c : Cfg) (L : List (Int × Key)) (il : List (List Nat)) (other : Int) (k : Key) (e : Ending) (w' : World) : Prop :=
 e = .returned (.int .i64 (forkS L other)) ∧ ((forkS L other ≠ 0 ∧ w' = w) ∨ (forkS L other = 0 ∧ Moves (fun k => F k ∨ k = g.SM) w w' ∧ HoardI (grow F w) ok w' g c (L ++ [(other, k)]) il))
set_option maxRecDepth 100000 in
set_option maxHeartbeats 1000000 in
theorem hfork_some (F ok : Nat → Prop) (g : Parts) (c : Cfg) (hc : c.ok) (L : List (Int × Key)) (il : List (List Nat)) (id other : Int) (k : Key) (w : World) (h : HoardI F ok w g c L il) (hid : -9223372036854775808 ≤ id ∧ id ≤ 9223372036854775807) (hot : -9223372036854775808 ≤ other ∧ other ≤ 9223372036854775807) (hk : assoc L id = some k) :
   Calls Tryz.prog 23 #[.pointer (some ⟨g.X, 0, none⟩), .int .i64 id, .int .i64 other] w fun e w' => HForked F ok w g c L il other k e w' := by
 obtain ⟨x0, x2, x5, x7, x8, x13, hXl⟩ := h.cells
 have hfew := h.few
 have hlen := h.len
 by_cases ho : assoc L other = none
 · obtain ⟨B, free, hS, hM⟩ := h.ex
   obtain ⟨L1, L2, eL, _⟩ := assoc_split hk
   have hm : (id, k) ∈ L := by rw [eL]; simp
   have hne := h.ne _ hm
   obtain ⟨b, hb⟩ := some_of_ne (hS.mem (mem_map_snd hm) hne)
   have hlook : (Instr.lookup 72 (.map (some g.SM)) (.int .i64 id) true).run Tryz.prog w = .ok (.tuple #[.pointer (some ⟨b, 0, none⟩), .bool true]) w := by
     have := hM.look (t := 72) Tryz.underlying3 Tryz.underlying72 (Tryz.zero_ptr w) id (int_wf id hid.1 hid.2)
     rw [hk] at this
     simp only [Option.map_some, hb, Option.getD_some, Option.isSome_some] at this
     exact this
   have hlook2 := h.look_none other hot ho
   by_cases h8 : 8 ≤ L.length
   · have hcode : forkS L other = 1 := by unfold forkS; rw [if_neg (by simp [ho]), if_pos h8]
     have Hcode := hide hcode
     clear hcode ho hk h hS hM eL hm
     go_enter Tryz.func23, Tryz.ntmps23
     go_wp2
     go_ret
     exact ⟨by rw [Hcode.out]; rfl, .inl ⟨by rw [Hcode.out]; simp, rfl⟩⟩
   · have hcode : forkS L other = 0 := by unfold forkS; rw [if_neg (by simp [ho]), if_neg h8]
     have huse := use_any F ok g c hc (L.map (·.2)) il B free k w hS (.inr (.inl ⟨k, mem_map_snd hm, on_self _ _ hne⟩)) (by simp; omega)
     rw [hb] at huse
     unfold blkV at huse
     have Huse := hide huse
     have Hcode := hide hcode
     have Ho := hide ho
     have Hh := hide h
     have HM := hide hM
     have HS := hide hS
     have Hm := hide hm
     clear huse hcode ho hk h hS hM eL hm
     go_enter Tryz.func23, Tryz.ntmps23
     go_wp2_with fail
     refine Huse.out.mono ?_
     rintro e w1 ⟨rfl, hS1, hM1⟩
     have hSM1 : w1.heap[g.SM]? = w.heap[g.SM]? := hM1.only.block g.SM Hh.out.sm.2 Hh.out.sm.1
     have hmap1 := HM.out.keep hSM1
     obtain ⟨w2, hup, hmv, hg2, hs2⟩ := hmap1.putk Tryz.underlying3 (t := 72) Tryz.underlying72 (by unfold maxLen; omega) other (int_wf other hot.1 hot.2) (.pointer (some ⟨b, 0, none⟩))
     obtain ⟨arr1, ax0, ax8⟩ := store_x13 hS1
     have z13 : w1.cell? ⟨g.X, 13, none⟩ = some (.map (some g.SM)) := by rw [cell_blk ax0]; exact ax8
     have HS1 := hide hS1
     have Hmv := hide hmv
     have Hg2 := hide hg2
     clear hS1 hmv hg2 Huse ax0 ax8 hSM1
     go_wp2
     go_ret
     refine ⟨by rw [Hcode.out]; rfl, .inr ⟨Hcode.out, ?_, ?_⟩⟩
     · refine ⟨(hM1.only.mono (fun k _ hk => .inl hk)).grown Hg2.out (fun x hx _ => .inr (by injection hx with hx; exact hx.symm)), fun e he => (hM1.kept e he).trans (fun x cur fr hx => ?_)⟩
       rw [Hg2.out.block x (lt_blk hx) (fun e' => by
         injection e' with e'
         obtain ⟨es, cl, ho⟩ := hmap1.obj
         rw [← e', hx] at ho
         cases ho)]
       exact hx
     · have hnS : ∀ k, grow F w k → k ≠ g.SM := fun k hk e => not_grow_sm Hh.out.sm (by rw [← e]; exact hk)
       have hS2 := HS1.out.other_map hmap1 Hg2.out hnS
       have hil : notUp k.1 il = il := by
         unfold notUp
         apply List.filter_eq_self.2
         intro p hp
         simp only [decide_eq_true_eq]
         intro hpf
         obtain ⟨q1, q2, _⟩ := HS.out.pure.whole p hp
         exact HS.out.pure.out p hp ⟨k, mem_map_snd Hm.out, q1, .inr ⟨rfl, q2, hpf⟩⟩
       rw [hil] at hS2
       refine ⟨⟨B, free, hS2.perm hc ?_, ?_⟩, ?_, fun x hx => ?_, by simp; omega, not_grow_sm Hh.out.sm, ?_⟩
       · rw [List.map_append]
         exact (List.perm_append_singleton _ _).symm
       · have e1 : ((assoc L other).map fun k => blkV (B k)) = none := by rw [Ho.out]; rfl
         have hmv' := Hmv.out
         rw [if_pos e1] at hmv'
         rw [List.length_append, List.length_singleton]
         have e2 : (fun y => if y = other then some (Value.pointer (some ⟨b, 0, none⟩)) else (assoc L y).map fun k => blkV (B k)) = fun y => (assoc (L ++ [(other, k)]) y).map fun k => blkV (B k) := by
           funext y
           rw [assoc_append, assoc_cons, assoc_nil]
           by_cases e : y = other
           · rw [if_pos e, e, Ho.out, if_pos rfl]
             show _ = some (blkV (B k))
             rw [hb]; rfl
           · rw [if_neg e, if_neg (fun e' => e e'.symm)]
             cases assoc L y <;> rfl
         rw [e2] at hmv'
         exact hmv'
       · rw [List.map_append, List.nodup_append]
         refine ⟨Hh.out.ids, by simp, fun a ha b hb e => ?_⟩
         simp only [List.map_cons, List.map_nil, List.mem_singleton] at hb
         subst hb e
         obtain ⟨x, hx, e'⟩ := List.mem_map.1 ha
         exact assoc_none.1 Ho.out x hx e'
       · rcases List.mem_append.1 hx with hx | hx
         · exact Hh.out.ne x hx
         · rw [List.mem_singleton] at hx
           subst hx
           exact hne
       · have := Hh.out.sm.2
         have := hM1.size
         omega
 · obtain ⟨B, b, U, hb, _, _, _, _, hlook⟩ := h.seq id hid hk
   obtain ⟨k2, hk2⟩ := some_of_ne ho
   obtain ⟨B2, b2, U2, hb2, _, _, _, _, hlook2⟩ := h.seq other hot hk2
   have hcode : forkS L other = 2 := by unfold forkS; rw [if_pos ho]
   have Hcode := hide hcode
   clear hcode ho hk h hk2
   go_enter Tryz.func23, Tryz.ntmps23
   go_wp2
   go_ret
   exact ⟨by rw [Hcode.out]; rfl, .inl ⟨by rw [Hcode.out]; simp, rfl⟩⟩
theorem hfree_none (F ok : Nat → Prop) (g : Parts) (c : Cfg) (L : List (Int × Key)) (il : List (List Nat)) (id : Int) (w : World) (h : HoardI F ok w g c L il) (hid : -9223372036854775808 ≤ id ∧ id ≤ 9223372036854775807) (hno : assoc L id = none) :
   Calls Tryz.prog 26 #[.pointer (some ⟨g.X, 0, none⟩), .int .i64 id] w fun e w' => e = .returned (.int .i64 3) ∧ w' = w := by
 obtain ⟨x0, x2, x5, x7, x8, x13, hXl⟩ := h.cells
 have hlook := h.look_none id hid hno
 clear hno h
 go_enter Tryz.func26, Tryz.ntmps26
 go_wp2
 go_ret
 exact ⟨rfl, rfl⟩
theorem HoardI.model {F ok : Nat → Prop} {w : World} {g : Parts} {c : Cfg} {L : List (Int × Key)} {il : List (List Nat)} (h : HoardI F ok w g c L il) : ModelT w g.M c g.vE g.vH g.bL g.oL g.cL := by
 obtain ⟨B, free, hS, _⟩ := h.ex
 obtain ⟨vI, vF, N, Mm, hl⟩ := hS.low
 exact hl.model
set_option maxRecDepth 100000 in
set_option maxHeartbeats 2000000 in
theorem behind_any (ok : Nat → Prop) (g : Parts) (c : Cfg) (hc : c.ok) (B : Key → Option Nat) (U : Key → Nat) (k : Key) (b : Nat) (w : World) (hs : SeqAt ok w c B U k) (hb : B k = some b) (hne : k.1 ≠ []) (htok : ∀ t ∈ k.1, t < c.vocab) (hM : ModelT w g.M c g.vE g.vH g.bL g.oL g.cL) (hX : w.cell? ⟨g.X, 7, none⟩ = some (.pointer (some ⟨g.M, 0, none⟩))) (hXl : g.X < w.heap.size) :
   Calls Tryz.prog 78 #[.pointer (some ⟨g.X, 0, none⟩), .pointer (some ⟨b, 0, none⟩)] w fun e w' => ∃ r, e = .returned r ∧ IntsT w' r c.width (xIn c (tkN k.1) (k.1.length - 1) c.layers) ∧ Below w.heap.size w w' := by
 have hlen := hs.len
 have h1 : 0 < k.1.length := List.length_pos_iff.2 hne
 have ht := tokens_any ok c hc B U k w hs
 rw [hb] at ht
 unfold blkV at ht
 have hcs := fun W (hW : Below w.heap.size w W) => cells_any ok c hc B U k W (hs.below hW)
 rw [hb] at hcs
 unfold blkV at hcs
 have Ht := hide ht
 have Hcs := hide hcs
 obtain ⟨p, hp⟩ : ∃ p, k.1.length = p + 1 := ⟨k.1.length - 1, by omega⟩
 have htk : tkN k.1 p < c.vocab := htok _ (by unfold tkN; rw [List.getD_eq_getElem?_getD]; simp [show p < k.1.length by omega])
 rw [hp] at Ht Hcs hlen
 have e0 : k.1.length - 1 = p := by omega
 rw [e0]
 have HM := hide hM
 clear ht hcs hs hb hne htok h1 hp e0 hM
 go_enter Tryz.func78, Tryz.ntmps78
 go_wp2_with fail
 refine Ht.out.mono ?_
 rintro e w1 ⟨r1, rfl, hr1, hb1⟩
 obtain ⟨a1, c1, e1⟩ := owns_form hr1
 subst e1
 obtain ⟨b1, ea1⟩ : ∃ b1, a1 = some ⟨b1, 0, none⟩ := by
   obtain ⟨_, ⟨_, q⟩ | ⟨g', cap', cur, q1, _⟩⟩ := hr1
   · omega
   · injection q1 with q1 _ _; exact ⟨g', q1⟩
 subst ea1
 have t1 := owns_at hr1 rfl (j := p) (u := .int .i64 (tkI k.1 p)) (by simp)
 have hb1l := (hr1.lt b1 rfl).2
 unfold tkI at t1
 clear hr1 Ht
 go_wp2_with fail
 refine (Hcs.out w1 hb1).mono ?_
 rintro e w2 ⟨r2, rfl, hC2, hb2⟩
 obtain ⟨a2, c2, e2⟩ := hC2.form
 subst e2
 have hB2 := hb1.trans (hb2.mono hb1.size)
 obtain ⟨gc, cv, rfl, hgc, ckc, hcell⟩ := hC2.cell p (by omega)
 obtain ⟨bc, ccap, _, _, ecv, _⟩ := id hcell
 subst ecv
 obtain ⟨hca1, hca2⟩ := hC2.cap
 unfold maxLen at hca2
 have hpast := hC2.past (p := p) (by omega)
 have t2 := (hb2.cell (p := ⟨b1, p, none⟩) hb1l).trans t1
 have x7 := (hB2.cell (p := ⟨g.X, 7, none⟩) hXl).trans hX
 have hM2 := HM.out.keep (KeepT.of_below hB2) (KeepT.of_below hB2) (KeepT.of_below hB2) (KeepT.of_below hB2)
 have hdr : Below w2.heap.size w2 w2.drew := (Below.refl _ _).drew
 have hpass := pass_kept c hc g.M (tkN k.1 p) p (.slice (some ⟨gc, 0, none⟩) p c2) g.vE g.vH (.slice (some ⟨bc, 0, none⟩) c.layers ccap) g.bL g.oL g.cL (memOf c (tkN k.1) p).1 (memOf c (tkN k.1) p).2 ok w2.drew (hM2.keep (KeepT.of_below hdr) (KeepT.of_below hdr) (KeepT.of_below hdr) (KeepT.of_below hdr)).model (hpast.below hdr) htk (by omega) (memOf_bd c (tkN k.1) p).1 (memOf_bd c (tkN k.1) p).2 (by exact hcell.below hdr)
 have Hpass := hide hpass
 have jp1 : (p : Int) < (p : Int) + 1 := by omega
 have jp2 : (p : Int) ≤ (c2 : Int) := by omega
 have jp0 : (0 : Int) ≤ (p : Int) := by omega
 have jw : IntKind.i64.wrap ((p : Int) + 1 - 1) = (p : Int) := by rw [wrap_in (by omega) (by omega)]; omega
 have hgl := hB2.size
 have hXl2 : g.X < w2.heap.size := by omega
 have hbl2 : b1 < w2.heap.size := by have := hb2.size; omega
 clear hpass hcell hpast hM2 Hcs hC2
 go_wp2_with fail
 go_region_held3 (fun w' => w'.cell? ⟨g.X, 7, none⟩ = some (.pointer (some ⟨g.M, 0, none⟩)) ∧ w'.cell? ⟨b1, p, none⟩ = some (.int .i64 (tkN k.1 p)) ∧ w'.cell? ⟨gc, p, none⟩ = some (.slice (some ⟨bc, 0, none⟩) c.layers ccap))
   (first | (exact ⟨z7, zt, zc⟩) | go_keep)
   (first | (go_at_call 94; refine Hpass.out.mono ?_; rintro e w3 ⟨r3, cell3, rfl, hr3, hb3⟩; replace hb3 : Below w2.heap.size w2 w3 := hdr.trans hb3; have z7 := (hb3.cell (p := ⟨g.X, 7, none⟩) hXl2).trans x7; have zt := (hb3.cell (p := ⟨b1, p, none⟩) hbl2).trans t2; have zc := (hb3.cell (p := ⟨gc, p, none⟩) hgc).trans ckc))
 have Hr3 := hide hr3
 clear hr3
 go_wp2
 go_ret
 exact ⟨r3, rfl, Hr3.out, hB2.trans (hb3.mono hB2.size)⟩
theorem hlogits_none (F ok : Nat → Prop) (g : Parts) (c : Cfg) (L : List (Int × Key)) (il : List (List Nat)) (id : Int) (w : World) (h : HoardI F ok w g c L il) (hid : -9223372036854775808 ≤ id ∧ id ≤ 9223372036854775807) (hno : assoc L id = none) :
   Calls Tryz.prog 52 #[.pointer (some ⟨g.X, 0, none⟩), .int .i64 id] w fun e w' => e = .returned (.tuple #[.slice none 0 0, .int .i64 3]) ∧ w' = w := by
 obtain ⟨x0, x2, x5, x7, x8, x13, hXl⟩ := h.cells
 have hlook := h.look_none id hid hno
 clear hno h
 go_enter Tryz.func52, Tryz.ntmps52
 go_wp2
 go_ret2
 exact ⟨rfl, rfl⟩
set_option maxRecDepth 100000 in
set_option maxHeartbeats 2000000 in
theorem hlogits_some (F ok : Nat → Prop) (g : Parts) (c : Cfg) (hc : c.ok) (L : List (Int × Key)) (il : List (List Nat)) (id : Int) (k : Key) (w : World) (h : HoardI F ok w g c L il) (hid : -9223372036854775808 ≤ id ∧ id ≤ 9223372036854775807) (hk : assoc L id = some k) :
   Calls Tryz.prog 52 #[.pointer (some ⟨g.X, 0, none⟩), .int .i64 id] w fun e w' => ∃ b, e = .returned (.tuple #[.slice (some ⟨b, 0, none⟩) c.vocab c.vocab, .int .i64 0]) ∧ OwnI w.heap.size w' b c.vocab c.vocab (logitsOf c (xIn c (tkN k.1) (k.1.length - 1) c.layers)) ∧ Below w.heap.size w w' := by
 obtain ⟨x0, x2, x5, x7, x8, x13, hXl⟩ := h.cells
 obtain ⟨B, b, U, hb, hs, hne, hl40, htok, hlook⟩ := h.seq id hid hk
 have hM := h.model
 have hdr : Below w.heap.size w w.drew := (Below.refl _ _).drew
 have hbe := behind_any ok g c hc B U k b w.drew (hs.below hdr) hb hne htok (hM.keep (KeepT.of_below hdr) (KeepT.of_below hdr) (KeepT.of_below hdr) (KeepT.of_below hdr)) x7 hXl
 have Hbe := hide hbe
 have HM := hide hM
 clear hbe hs hb hne htok hk h hM
 go_enter Tryz.func52, Tryz.ntmps52
 go_wp2_with fail
 go_region_held3 (fun w' => w'.cell? ⟨g.X, 7, none⟩ = some (.pointer (some ⟨g.M, 0, none⟩)))
   (first | (exact z72) | (exact z7) | go_keep)
   (first
     | (go_at_call 78; refine Hbe.out.mono ?_; rintro e w1 ⟨r1, rfl, hr1, hb1⟩; replace hb1 : Below w.heap.size w w1 := hdr.trans hb1; have z7 := (hb1.cell (p := ⟨g.X, 7, none⟩) hXl).trans x7; have hXl1 : g.X < w1.heap.size := Nat.lt_of_lt_of_le hXl hb1.size)
     | (go_at_call 77; refine (dlogits_any c hc g.M r1 g.vE g.vH g.bL g.oL g.cL _ w1 (HM.out.keep (KeepT.of_below hb1) (KeepT.of_below hb1) (KeepT.of_below hb1) (KeepT.of_below hb1)).model hr1 (fun j => xIn_bd _ _ _ _ _)).mono ?_; rintro e w2 ⟨b2, rfl, ho2, hb2⟩; have z72 := (hb2.cell (p := ⟨g.X, 7, none⟩) hXl1).trans z7))
 have Ho2 := hide ho2
 clear ho2 hr1
 go_wp2
 go_ret2
 exact ⟨b2, rfl, Ho2.out.mono hb1.size, hb1.trans (hb2.mono hb1.size)⟩
theorem Tryz.info_seq : (Tryz.prog.info? 113).map (fun i => (i.zero, i.size, i.bytes)) = some (some (.agg #[.int .i64 0, .slice none 0 0, .int .i64 0]), 3, 40) := by kernel_rfl
theorem seq_mid (L1 L2 : List (Int × Key)) (x : Int × Key) : idAt (L1 ++ x :: L2) L1.length = x.1 ∧ toksAt (L1 ++ x :: L2) L1.length = x.2.1 ∧ tailAt (L1 ++ x :: L2) L1.length = x.2.2 := by
 unfold idAt toksAt tailAt
 rw [List.getD_eq_getElem?_getD, List.getElem?_append_right (Nat.le_refl _)]
 simp
theorem seq_far (L1 L2 : List (Int × Key)) (x y : Int × Key) (i : Nat) (h : i ≠ L1.length) : idAt (L1 ++ x :: L2) i = idAt (L1 ++ y :: L2) i ∧ toksAt (L1 ++ x :: L2) i = toksAt (L1 ++ y :: L2) i ∧ tailAt (L1 ++ x :: L2) i = tailAt (L1 ++ y :: L2) i := by
 have e : (L1 ++ x :: L2).getD i (0, ([], 0)) = (L1 ++ y :: L2).getD i (0, ([], 0)) := by
   rw [List.getD_eq_getElem?_getD, List.getD_eq_getElem?_getD]
   rcases Nat.lt_or_ge i L1.length with hl | hl
   · rw [List.getElem?_append_left hl, List.getElem?_append_left hl]
   · rw [List.getElem?_append_right hl, List.getElem?_append_right hl]
     obtain ⟨j, hj⟩ : ∃ j, i - L1.length = j + 1 := ⟨i - L1.length - 1, by omega⟩
     rw [hj]; simp
 unfold idAt toksAt tailAt
 rw [e]
 exact ⟨rfl, rfl, rfl⟩
theorem seq_snoc (L : List (Int × Key)) (x : Int × Key) (i : Nat) (h : i < L.length) : idAt (L ++ [x]) i = idAt L i ∧ toksAt (L ++ [x]) i = toksAt L i ∧ tailAt (L ++ [x]) i = tailAt L i := by
 have e : (L ++ [x]).getD i (0, ([], 0)) = L.getD i (0, ([], 0)) := by
   rw [List.getD_eq_getElem?_getD, List.getD_eq_getElem?_getD, List.getElem?_append_left h]
 unfold idAt toksAt tailAt
 rw [e]
 exact ⟨rfl, rfl, rfl⟩
theorem idAt_ne {L : List (Int × Key)} {id : Int} (h : assoc L id = none) (i : Nat) (hi : i < L.length) : idAt L i ≠ id := assoc_none.1 h _ (at_mem hi)
theorem reffind_none (Y : Nat) (id : Int) (vL : Value) (L : List (Int × Key)) (ok : Nat → Prop) (w : World) (hY : w.cell? ⟨Y, 1, none⟩ = some vL) (hL : SeqsI ok w vL L) (hn : L.length ≤ 1000) (hno : assoc L id = none) :
   Calls Tryz.prog 57 #[.pointer (some ⟨Y, 0, none⟩), .int .i64 id] w fun e w' => e = .returned (.int .i64 (-1)) ∧ w' = w := by
 refine (reffind_any Y id vL L ok w hY hL hn).mono ?_
 rintro e w' ⟨⟨rfl, _⟩ | ⟨k, rfl, hk, he, _⟩, hw⟩
 · exact ⟨rfl, hw⟩
 · exact absurd he (idAt_ne hno k hk)
theorem reffind_at (Y : Nat) (id : Int) (vL : Value) (L1 L2 : List (Int × Key)) (k0 : Key) (ok : Nat → Prop) (w : World) (hY : w.cell? ⟨Y, 1, none⟩ = some vL) (hL : SeqsI ok w vL (L1 ++ (id, k0) :: L2)) (hn : (L1 ++ (id, k0) :: L2).length ≤ 1000) (hno : assoc L1 id = none) :
   Calls Tryz.prog 57 #[.pointer (some ⟨Y, 0, none⟩), .int .i64 id] w fun e w' => e = .returned (.int .i64 L1.length) ∧ w' = w := by
 have hm := (seq_mid L1 L2 (id, k0)).1
 refine (reffind_any Y id vL _ ok w hY hL hn).mono ?_
 rintro e w' ⟨⟨rfl, hno'⟩ | ⟨k, rfl, hk, he, hf⟩, hw⟩
 · exact absurd hm (hno' L1.length (by simp))
 · refine ⟨?_, hw⟩
   have : k = L1.length := by
     rcases Nat.lt_trichotomy k L1.length with q | q | q
     · refine absurd he ?_
       have e1 : idAt (L1 ++ (id, k0) :: L2) k = idAt L1 k := by
         unfold idAt
         rw [List.getD_eq_getElem?_getD, List.getD_eq_getElem?_getD, List.getElem?_append_left q]
       rw [e1]
       exact idAt_ne hno k q
     · exact q
     · exact absurd hm (hf L1.length q)
   rw [this]
def RefTo (ok : Nat → Prop) (w : World) (Y d : Nat) (c : Cfg) (vL vI : Value) (L' : List (Int × Key)) (il' : List (List Nat)) (nt' : Nat) (w' : World) : Prop :=
 Only (RS Y vL vI) w w' ∧ ∃ vL' vI', RefI ok w' Y d c L' il' nt' vL' vI' ∧ (∀ k, RS Y vL' vI' k → RS Y vL vI k ∨ w.heap.size ≤ k) ∧ ∀ k, atB vI' k → atB vI k ∨ w.heap.size ≤ k
theorem SeqsI.push {ok : Nat → Prop} {w w' : World} {v' vT : Value} {L : List (Int × Key)} {id : Int} {k : Key} {F : Nat → Value}
   (hF : ∀ i, i < L.length → F (i * 3) = .int .i64 (idAt L i) ∧ (TokT w (F (i * 3 + 1)) (toksAt L i) ∧ okV ok (F (i * 3 + 1))) ∧ F (i * 3 + 2) = .int .i64 (tailAt L i))
   (hown : w'.ownsRow 0 113 3 v' (L.length + 1) ((List.range (L.length * 3)).map F ++ [.int .i64 id, vT, .int .i64 k.2])) (hk : KeepT 3 w w') (hT : TokT w' vT k.1) (hok : okV ok vT) :
   SeqsI ok w' v' (L ++ [(id, k)]) := by
 refine ⟨fun j => if j = L.length * 3 then .int .i64 id else if j = L.length * 3 + 1 then vT else if j = L.length * 3 + 2 then .int .i64 k.2 else F j, ?_, fun i hi => ?_⟩
 · have e : (List.range ((L ++ [(id, k)]).length * 3)).map (fun j => if j = L.length * 3 then Value.int .i64 id else if j = L.length * 3 + 1 then vT else if j = L.length * 3 + 2 then .int .i64 k.2 else F j) = (List.range (L.length * 3)).map F ++ [.int .i64 id, vT, .int .i64 k.2] := by
     rw [List.length_append, List.length_singleton, show (L.length + 1) * 3 = L.length * 3 + 3 by omega, range_map_add]
     congr 1
     · apply List.map_congr_left
       intro j hj
       have := List.mem_range.1 hj
       rw [if_neg (by omega), if_neg (by omega), if_neg (by omega)]
     · simp [List.range_succ]
   rw [e, List.length_append, List.length_singleton]
   exact hown
 · rw [List.length_append, List.length_singleton] at hi
   by_cases e : i = L.length
   · subst e
     obtain ⟨q1, q2, q3⟩ := seq_mid L [] (id, k)
     rw [q1, q2, q3]
     simp [hT, hok]
   · obtain ⟨q1, q2, q3⟩ := seq_snoc L (id, k) i (by omega)
     rw [q1, q2, q3]
     simp only []
     rw [if_neg (by omega), if_neg (by omega), if_neg (by omega), if_neg (by omega), if_neg (by omega), if_neg (by omega), if_neg (by omega), if_neg (by omega), if_neg (by omega)]
     obtain ⟨h1, ⟨h2, h2'⟩, h3⟩ := hF i (by omega)
     exact ⟨h1, ⟨h2.keep hk, h2'⟩, h3⟩
theorem RefI.push {ok : Nat → Prop} {W w1 w2 : World} {Y d : Nat} {c : Cfg} {L : List (Int × Key)} {il : List (List Nat)} {nt gg cap : Nat} {vL vI vT : Value} {id : Int} {k : Key} {F : Nat → Value} (h : RefI ok W Y d c L il nt vL vI)
   (hF : ∀ i, i < L.length → F (i * 3) = .int .i64 (idAt L i) ∧ (TokT W (F (i * 3 + 1)) (toksAt L i) ∧ okV ok (F (i * 3 + 1))) ∧ F (i * 3 + 2) = .int .i64 (tailAt L i))
   (hrow : w1.ownsRow 0 113 3 vL L.length ((List.range (L.length * 3)).map F)) (hb1 : Below W.heap.size W w1) (hgrow : w1.grownBy w2 vL.ownBlock) (hgg : vL.ownBlock = some gg ∨ W.heap.size ≤ gg)
   (hown : w2.ownsRow 0 113 3 (.slice (some ⟨gg, 0, none⟩) (L.length + 1) cap) (L.length + 1) ((List.range (L.length * 3)).map F ++ [.int .i64 id, vT, .int .i64 k.2]))
   (hT : TokT W vT k.1) (hok : okV ok vT) (htl : TailsOk c.slots (L ++ [(id, k)]) nt) (hm : L.length < 8) (hlen : 1 ≤ k.1.length ∧ k.1.length ≤ 40) (htk : ∀ x ∈ k.1, x < c.vocab) :
   RefTo ok W Y d c vL vI (L ++ [(id, k)]) il nt (w2.setCell ⟨Y, 1, none⟩ (.slice (some ⟨gg, 0, none⟩) (L.length + 1) cap)) := by
 have kg : ∀ e : TypeId, e ≠ 113 → KeepT e W w2 := fun e he => (KeepT.of_below hb1).trans (KeepT.of_grown hrow hgrow he)
 have hobj2 := kg _ (by decide) _ _ _ h.obj
 have ks : ∀ e : TypeId, e ≠ 85 → KeepT e w2 (w2.setCell ⟨Y, 1, none⟩ (.slice (some ⟨gg, 0, none⟩) (L.length + 1) cap)) := fun e he => KeepT.setCell hobj2 he _
 have kk : ∀ e : TypeId, e ≠ 113 → e ≠ 85 → KeepT e W (w2.setCell ⟨Y, 1, none⟩ (.slice (some ⟨gg, 0, none⟩) (L.length + 1) cap)) := fun e h1 h2 => (kg e h1).trans (ks e h2)
 have mem : ∀ x ∈ L ++ [(id, k)], x ∈ L ∨ x = (id, k) := fun x hx => by
   rcases List.mem_append.1 hx with hx | hx
   · exact .inl hx
   · exact .inr (by simpa using hx)
 refine ⟨?_, .slice (some ⟨gg, 0, none⟩) (L.length + 1) cap, vI, ⟨?_, ?_, ?_, h.dec.keep (kk _ (by decide) (by decide)) (kk _ (by decide) (by decide)), htl, by simp; omega, fun x hx => ?_, fun x hx => ?_, h.ilen, h.ilne⟩, fun j hj => ?_, fun _ hk => .inl hk⟩
 · exact ((Only.of_below hb1 _).grown hgrow (fun g hg _ => .inr (.inl hg))).setCell (fun _ => .inl rfl) _
 · rw [setCell_blk hobj2]; rfl
 · have hs := SeqsI.push (ok := ok) (w := W) hF hown (kg _ (by decide)) (hT.keep (kg _ (by decide))) hok
   exact hs.stays (fun j hj => by
     obtain ⟨_, ⟨q2, _⟩ | ⟨g', cap', cur', e', hg', hh', rest⟩⟩ := hown
     · cases q2
     · have : j = g' := by cases e'; simpa [Value.ownBlock] using hj.symm
       subst this
       rw [ks _ (by decide) _ _ _ hh', hh']) (KeepOk.of (ks _ (by decide))) (fun _ h => h)
 · exact h.idle.stays (fun a n cp e => by obtain ⟨cur, q⟩ := h.idle.own e; rw [kk _ (by decide) (by decide) _ _ _ q, q]) (KeepOk.of (kk _ (by decide) (by decide))) (fun _ h => h)
 · rcases mem x hx with hx | rfl
   · exact h.len x hx
   · exact hlen
 · rcases mem x hx with hx | rfl
   · exact h.toks x hx
   · exact htk
 · rcases hj with hj | hj | hj
   · exact .inl (.inl hj)
   · have : gg = j := by simpa [Value.ownBlock] using hj
     subst this
     rcases hgg with q | q
     · exact .inl (.inr (.inl q))
     · exact .inr q
   · exact .inl (.inr (.inr hj))
theorem three_new (w : World) (a b c : Value) (t : TypeId) : ∀ (j : Nat) (u : Value), [a, b, c][j]? = some u → (w.alloc (.cells #[a, b, c] t)).cell? ((⟨w.heap.size, 0, none⟩ : Addr).add j) = some u := by
 intro j u hj
 match j, hj with
 | 0, hj => simp at hj; subst hj; simp [Addr.add]
 | 1, hj => simp at hj; subst hj; simp [Addr.add]
 | 2, hj => simp at hj; subst hj; simp [Addr.add]
theorem RefI.set {ok : Nat → Prop} {W : World} {Y d : Nat} {c : Cfg} {L1 L2 : List (Int × Key)} {il : List (List Nat)} {nt g len cap : Nat} {vI vT : Value} {id : Int} {k0 k : Key} (h : RefI ok W Y d c (L1 ++ (id, k0) :: L2) il nt (.slice (some ⟨g, 0, none⟩) len cap) vI)
   (hT : TokT W vT k.1) (hok : okV ok vT) (htl : TailsOk c.slots (L1 ++ (id, k) :: L2) nt) (hlen : 1 ≤ k.1.length ∧ k.1.length ≤ 40) (htk : ∀ x ∈ k.1, x < c.vocab) :
   RefTo ok W Y d c (.slice (some ⟨g, 0, none⟩) len cap) vI (L1 ++ (id, k) :: L2) il nt (((W.setCell ⟨g, L1.length * 3, none⟩ (.int .i64 id)).setCell ⟨g, L1.length * 3 + 1, none⟩ vT).setCell ⟨g, L1.length * 3 + 2, none⟩ (.int .i64 k.2)) := by
 obtain ⟨F, ⟨q0, ⟨q1, _⟩ | ⟨g', cap', cur, e', hg', hh, hn, hm, hs, ht⟩⟩, hF⟩ := h.seqs
 · cases q1
 cases e'
 have hll : (L1 ++ (id, k) :: L2).length = (L1 ++ (id, k0) :: L2).length := by simp
 have hlt : L1.length < (L1 ++ (id, k0) :: L2).length := by simp
 obtain ⟨cur', hcur'⟩ : ∃ cur', cur' = ((cur.setIfInBounds (L1.length * 3) (.int .i64 id)).setIfInBounds (L1.length * 3 + 1) vT).setIfInBounds (L1.length * 3 + 2) (.int .i64 k.2) := ⟨_, rfl⟩
 have hnew : (((W.setCell ⟨g, L1.length * 3, none⟩ (.int .i64 id)).setCell ⟨g, L1.length * 3 + 1, none⟩ vT).setCell ⟨g, L1.length * 3 + 2, none⟩ (.int .i64 k.2)).heap[g]? = some (.cells cur' 113 (0, 0)) := by
   rw [setCell_blk (setCell_blk (setCell_blk hh _ _) _ _), hcur']
 generalize hW' : ((W.setCell ⟨g, L1.length * 3, none⟩ (.int .i64 id)).setCell ⟨g, L1.length * 3 + 1, none⟩ vT).setCell ⟨g, L1.length * 3 + 2, none⟩ (.int .i64 k.2) = W' at hnew
 have kk : ∀ e : TypeId, e ≠ 113 → KeepT e W W' := fun e he => by
   rw [← hW']
   exact ((KeepT.setCell hh he _).trans (KeepT.setCell (setCell_blk hh _ _) he _)).trans (KeepT.setCell (setCell_blk (setCell_blk hh _ _) _ _) he _)
 have hO : Only (RS Y (.slice (some ⟨g, 0, none⟩) (L1 ++ (id, k0) :: L2).length cap) vI) W W' := by
   rw [← hW']
   exact (((Only.refl _ _).setCell (fun _ => .inr (.inl rfl)) _).setCell (fun _ => .inr (.inl rfl)) _).setCell (fun _ => .inr (.inl rfl)) _
 have mem : ∀ x ∈ L1 ++ (id, k) :: L2, x = (id, k) ∨ x ∈ L1 ++ (id, k0) :: L2 := fun x hx => by
   rcases List.mem_append.1 hx with hx | hx
   · exact .inr (by simp [hx])
   · rcases List.mem_cons.1 hx with hx | hx
     · exact .inl hx
     · exact .inr (by simp [hx])
 refine ⟨hO, .slice (some ⟨g, 0, none⟩) (L1 ++ (id, k0) :: L2).length cap, vI, ⟨kk _ (by decide) _ _ _ h.obj, ?_, ?_, h.dec.keep (kk _ (by decide)) (kk _ (by decide)), htl, by rw [hll]; exact h.many, fun x hx => ?_, fun x hx => ?_, h.ilen, h.ilne⟩, fun j hj => .inl hj, fun _ hk => .inl hk⟩
 · have hget : ∀ j, j < (L1 ++ (id, k0) :: L2).length * 3 → cur[j]? = some (F j) := fun j hj => by
     have h1 := congrArg (fun l => l[j]?) ht
     rw [List.getElem?_take_of_lt hj] at h1
     simp only [List.getElem?_map, List.getElem?_range hj, Option.map_some] at h1
     simpa using h1
   refine ⟨fun j => if j = L1.length * 3 then .int .i64 id else if j = L1.length * 3 + 1 then vT else if j = L1.length * 3 + 2 then .int .i64 k.2 else F j, ?_, fun i hi => ?_⟩
   · rw [hll]
     refine ⟨by simp, .inr ⟨g, cap, cur', rfl, hg', hnew, hn, hm, by rw [hcur']; simpa using hs, ?_⟩⟩
     apply List.ext_getElem?
     intro j
     by_cases hj : j < (L1 ++ (id, k0) :: L2).length * 3
     · rw [List.getElem?_take_of_lt hj]
       simp only [List.getElem?_map, List.getElem?_range hj, Option.map_some]
       have hjs : j < cur.size := (Array.getElem?_eq_some_iff.1 (hget j hj)).1
       have : cur'[j]? = some (if j = L1.length * 3 then Value.int .i64 id else if j = L1.length * 3 + 1 then vT else if j = L1.length * 3 + 2 then .int .i64 k.2 else F j) := by
         rw [hcur']
         by_cases e2 : j = L1.length * 3 + 2
         · rw [e2, if_neg (by omega), if_neg (by omega), if_pos rfl]
           rw [Array.getElem?_setIfInBounds_self_of_lt (by simp; omega)]
         · rw [Array.getElem?_setIfInBounds_ne (by omega)]
           by_cases e1 : j = L1.length * 3 + 1
           · rw [e1, if_neg (by omega), if_pos rfl]
             rw [Array.getElem?_setIfInBounds_self_of_lt (by simp; omega)]
           · rw [Array.getElem?_setIfInBounds_ne (by omega)]
             by_cases e0 : j = L1.length * 3
             · rw [e0, if_pos rfl]
               rw [Array.getElem?_setIfInBounds_self_of_lt (by omega)]
             · rw [Array.getElem?_setIfInBounds_ne (by omega), if_neg e0, if_neg e1, if_neg e2]
               exact hget j hj
       simpa using this
     · rw [List.getElem?_eq_none (by rw [List.length_take]; omega), List.getElem?_eq_none (by rw [List.length_map, List.length_range]; omega)]
   · rw [hll] at hi
     by_cases e : i = L1.length
     · subst e
       obtain ⟨r1, r2, r3⟩ := seq_mid L1 L2 (id, k)
       rw [r1, r2, r3]
       simp [hT.keep (kk _ (by decide)), hok]
     · obtain ⟨r1, r2, r3⟩ := seq_far L1 L2 (id, k) (id, k0) i e
       rw [r1, r2, r3]
       simp only []
       rw [if_neg (by omega), if_neg (by omega), if_neg (by omega), if_neg (by omega), if_neg (by omega), if_neg (by omega), if_neg (by omega), if_neg (by omega), if_neg (by omega)]
       obtain ⟨h1, ⟨h2, h2'⟩, h3⟩ := hF i hi
       exact ⟨h1, ⟨h2.keep (kk _ (by decide)), h2'⟩, h3⟩
 · exact h.idle.stays (fun a n cp e => by obtain ⟨cur, q⟩ := h.idle.own e; rw [kk _ (by decide) _ _ _ q, q]) (KeepOk.of (kk _ (by decide))) (fun _ h => h)
 · rcases mem x hx with rfl | hx
   · exact hlen
   · exact h.len x hx
 · rcases mem x hx with rfl | hx
   · exact htk
   · exact h.toks x hx
end Go.Proofs.YtlmflighkkgikaaGreat
