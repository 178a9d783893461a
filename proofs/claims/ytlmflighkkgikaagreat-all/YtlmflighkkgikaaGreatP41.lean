import Derived.Deep.RegionHeld3
import Derived.Test.YtlmflighkkgikaaGreatP40

namespace Go.Proofs.YtlmflighkkgikaaGreat
open Go.RowKit
attribute [local go_sem ↓] Go.wp_at_zero Go.wp_at_succ
theorem refappend_none (Y d n : Nat) (c : Cfg) (id : Int) (f : Nat → Int) (vt : Value) (L : List (Int × Key)) (ok : Nat → Prop) (il : List (List Nat)) (nt : Nat) (vL vI : Value) (w : World) (h : RefI ok w Y d c L il nt vL vI) (ht : Ints w vt n f) (hno : assoc L id = none) :
   Calls Tryz.prog 46 #[.pointer (some ⟨Y, 0, none⟩), .int .i64 id, vt] w fun e w' => e = .returned (.int .i64 3) ∧ Below w.heap.size w w' := by
 have y0 : w.cell? ⟨Y, 0, none⟩ = some (.pointer (some ⟨d, 0, none⟩)) := by rw [cell_blk h.obj]; rfl
 have y1 : w.cell? ⟨Y, 1, none⟩ = some vL := by rw [cell_blk h.obj]; rfl
 have d5 : w.cell? ⟨d, 5, none⟩ = some (.int .i64 c.vocab) := by
   obtain ⟨vW, h1, _⟩ := h.dec
   rw [cell_blk h1]; rfl
 have hf := reffind_none Y id vL L ok w y1 h.seqs (by have := h.many; omega) hno
 have hwr := refwrong_any Y d n c _ f w y0 d5 ht
 have Hf := hide hf
 have Hwr := hide hwr
 clear hf h hno hwr ht
 go_enter Tryz.func46, Tryz.ntmps46
 go_wp2_with fail
 refine Calls_use Hf.out ?_
 go_wp2_with fail
 refine Hwr.out.mono ?_
 rintro e W1 ⟨hw, q, hW1⟩
 have hb1 : Below w.heap.size w W1 := by rw [hW1]; exact below_drewN (Below.refl _ _) q
 obtain ⟨bad, eb⟩ : ∃ bad : Bool, e = .returned (.bool bad) := by
   rcases hw with ⟨rfl, _⟩ | ⟨rfl, _⟩
   · exact ⟨true, rfl⟩
   · exact ⟨false, rfl⟩
 subst eb
 clear hw hW1 Hwr Hf
 go_wp2
 go_ret
 exact ⟨rfl, hb1⟩
def RefAppended (ok : Nat → Prop) (w : World) (Y d : Nat) (c : Cfg) (L1 L2 : List (Int × Key)) (il : List (List Nat)) (nt : Nat) (vL vI : Value) (id : Int) (k0 : Key) (n : Nat) (f : Nat → Int) (e : Ending) (w' : World) : Prop :=
 e = .returned (.int .i64 (appendS c k0 ((L1 ++ L2).map (·.2)) il n f)) ∧ ∃ nt', nt' ≤ nt + 1 ∧
   (((appendS c k0 ((L1 ++ L2).map (·.2)) il n f ≠ 0 ∨ n = 0) ∧ RefTo ok w Y d c vL vI (L1 ++ (id, k0) :: L2) il nt' w') ∨
    (appendS c k0 ((L1 ++ L2).map (·.2)) il n f = 0 ∧ n ≠ 0 ∧ RefTo ok w Y d c vL vI (L1 ++ (id, endKey c.slots (k0.1 ++ natsOf n f) (putTn c (L1 ++ (id, k0) :: L2) il k0 (k0.1 ++ natsOf n f) nt)) :: L2) (ilS c k0 ((L1 ++ L2).map (·.2)) il (k0.1 ++ natsOf n f)) nt' w'))
theorem tails_put {c : Cfg} {L1 L2 : List (Int × Key)} {id : Int} {k0 : Key} {_il : List (List Nat)} {T : List Nat} {nt nt' tn tl : Nat} (hT : TailsOk c.slots (L1 ++ (id, k0) :: L2) nt) (hle : nt ≤ nt') (hkey : (T, tl) = endKey c.slots T tn) (htn : tn ≠ 0) (hne : ∀ h ∈ (L1 ++ L2).map (·.2), h.2 ≠ tn) (htle : tl ≤ nt') : TailsOk c.slots (L1 ++ (id, (T, tl)) :: L2) nt' := by
 refine TailsOk.put (M := L1 ++ (id, k0) :: L2) hT (fun y hy => by rcases List.mem_append.1 hy with hy | hy <;> simp [hy]) hle ?_ htle (fun h0 y hy e => ?_)
 · show keyOk c.slots (T, tl)
   rw [hkey]; exact endKey_ok _ _ _ htn
 · have hh := congrArg Prod.snd hkey
   unfold endKey at hh
   simp only at hh e h0
   split at hh
   · omega
   · exact hne y.2 (List.mem_map.2 ⟨y, hy, rfl⟩) (by rw [e, hh])
set_option maxRecDepth 100000 in
set_option maxHeartbeats 8000000 in
theorem refappend_some (Y d n : Nat) (c : Cfg) (hc : c.ok) (id : Int) (f : Nat → Int) (vt : Value) (L1 L2 : List (Int × Key)) (ok : Nat → Prop) (il : List (List Nat)) (nt : Nat) (vL vI : Value) (k0 : Key) (w : World) (h : RefI ok w Y d c (L1 ++ (id, k0) :: L2) il nt vL vI) (hno : assoc L1 id = none) (ht : Ints w vt n f) (hnb : n ≤ 100000000000000) (hnt : nt ≤ 5000000000000) (hok : ∀ b, w.heap.size ≤ b → ok b)
   (hp : Pure c.slots c.vocab ((L1 ++ (id, k0) :: L2).map (·.2)) il) (hfree : nUsed c.slots ((L1 ++ (id, k0) :: L2).map (·.2)) + il.length ≤ c.blocks) :
   Calls Tryz.prog 46 #[.pointer (some ⟨Y, 0, none⟩), .int .i64 id, vt] w fun e w' => RefAppended ok w Y d c L1 L2 il nt vL vI id k0 n f e w' := by
 have hYl := lt_blk h.obj
 have y0 : w.cell? ⟨Y, 0, none⟩ = some (.pointer (some ⟨d, 0, none⟩)) := by rw [cell_blk h.obj]; rfl
 have y1 : w.cell? ⟨Y, 1, none⟩ = some vL := by rw [cell_blk h.obj]; rfl
 have d5 : w.cell? ⟨d, 5, none⟩ = some (.int .i64 c.vocab) := by
   obtain ⟨vW, h1, _⟩ := h.dec
   rw [cell_blk h1]; rfl
 have hmany := h.many
 have ht0 := ht
 obtain ⟨at', ct, rfl, ht1, ht2, _⟩ := ht0
 unfold maxLen at ht2
 have hmem : (id, k0) ∈ L1 ++ (id, k0) :: L2 := by simp
 have hk0le : k0.2 ≤ nt := h.tails.le _ hmem
 have hk0len : 1 ≤ k0.1.length ∧ k0.1.length ≤ 40 := h.len _ hmem
 have hk0tok : ∀ x ∈ k0.1, x < c.vocab := h.toks _ hmem
 obtain ⟨g, cap, vT, eV, hc1, hc2, c0, c1, c2, hT, hoT, hgl⟩ := h.mid
 have hln : (L1 ++ (id, k0) :: L2).length = L1.length + 1 + L2.length := by simp; omega
 rw [hln] at hc1 hmany eV
 unfold maxLen at hc2
 have hf := reffind_at Y id vL L1 L2 k0 ok w y1 h.seqs (by omega) hno
 have Hf := hide hf
 have hwr := refwrong_any Y d n c _ f w y0 d5 ht
 have Hwr := hide hwr
 have Hok := hide hok
 have Hp := hide hp
 have Hfree := hide hfree
 have Ht := hide ht
 clear hwr hok hp hfree ht hf
 go_enter Tryz.func46, Tryz.ntmps46
 go_wp2_with fail
 refine Calls_use Hf.out ?_
 clear Hf
 go_wp2_with fail
 refine Hwr.out.mono ?_
 rintro e W1 ⟨hw, q, hW1⟩
 obtain ⟨bad, eb, hbad, hgood⟩ : ∃ bad : Bool, e = .returned (.bool bad) ∧ (bad = true → ∃ j, j < n ∧ badTok c.vocab (f j)) ∧ (bad = false → ∀ j, j < n → ¬ badTok c.vocab (f j)) := by
   rcases hw with ⟨rfl, hj⟩ | ⟨rfl, hj⟩
   · exact ⟨true, rfl, fun _ => hj, fun h => absurd h (by decide)⟩
   · exact ⟨false, rfl, fun h => absurd h (by decide), fun _ => hj⟩
 subst eb
 have hb1 : Below w.heap.size w W1 := by rw [hW1]; exact below_drewN (Below.refl _ _) q
 have hsz1 : W1.heap.size = w.heap.size := by rw [hW1]; rfl
 have h1 := h.below hb1
 have k1 : W1.cell? ⟨Y, 1, none⟩ = some (.slice (some ⟨g, 0, none⟩) (L1.length + 1 + L2.length) cap) := by rw [← eV]; exact (hb1.cell (p := ⟨Y, 1, none⟩) hYl).trans y1
 have m0 := (hb1.cell (p := ⟨g, L1.length * 3, none⟩) hgl).trans c0
 have m1 := (hb1.cell (p := ⟨g, L1.length * 3 + 1, none⟩) hgl).trans c1
 have m2 := (hb1.cell (p := ⟨g, L1.length * 3 + 2, none⟩) hgl).trans c2
 have hT1 := hT.keep (KeepT.of_below hb1)
 have Ht1 := hide (Ht.out.below hb1)
 obtain ⟨aT, cT, eT, _, _⟩ := hT.slice
 subst eT
 have Hsame : Hid (∀ code : Nat, appendS c k0 ((L1 ++ L2).map (·.2)) il n f = code → code ≠ 0 → RefAppended ok w Y d c L1 L2 il nt vL vI id k0 n f (.returned (.int .i64 code)) W1) := by
   show ∀ code : Nat, _ → _ → _
   intro code hcode h0
   exact ⟨by rw [hcode], nt, by omega, .inl ⟨.inl (by rw [hcode]; exact h0), RefTo.of_ref h1 (Only.of_below hb1 _)⟩⟩
 have Hh1 := hide h1
 have HT1 := hide hT1
 have HeV := hide eV
 clear hw Hwr hW1 h h1 hT hT1 c0 c1 c2 y1 eV
 cases bad with
 | true =>
   have Hcode : Hid (appendS c k0 ((L1 ++ L2).map (·.2)) il n f = 4) := by show _ = _; unfold appendS; rw [if_pos (hbad rfl)]
   clear hbad hgood
   go_wp2
   go_ret
   exact Hsame.out 4 Hcode.out (by omega)
 | false =>
   have hgood := hgood rfl
   have Hgood := hide hgood
   have Hnb : Hid (¬ ∃ j, j < n ∧ badTok c.vocab (f j)) := fun ⟨j, hj, hb⟩ => hgood j hj hb
   clear hgood hbad
   by_cases h40 : 40 < k0.1.length + n
   · have Hcode : Hid (appendS c k0 ((L1 ++ L2).map (·.2)) il n f = 5) := by show _ = _; unfold appendS; rw [if_neg Hnb.out, if_pos h40]
     have h40' : (40 : Int) < (k0.1.length : Int) + n := by omega
     go_wp2
     go_ret
     exact Hsame.out 5 Hcode.out (by omega)
   · have h40' : ¬ (40 : Int) < (k0.1.length : Int) + n := by omega
     by_cases hn0 : n = 0
     · have Hcode : Hid (appendS c k0 ((L1 ++ L2).map (·.2)) il n f = 0) := by show _ = _; unfold appendS; rw [if_neg Hnb.out, if_neg h40, if_pos hn0]
       have Hn0 := hide hn0
       have Hput : Hid (Calls Tryz.prog 73 #[.pointer (some ⟨Y, 0, none⟩), .agg #[.int .i64 id, .slice aT k0.1.length cT, .int .i64 k0.2], .slice at' n ct] W1 fun e w' => e = .returned (.tuple #[.agg #[.int .i64 id, .slice aT k0.1.length cT, .int .i64 k0.2], .int .i64 0]) ∧ Below W1.heap.size W1 w') := by
         show Calls _ _ _ _ _
         rw [hn0]; exact refput_nil Y id _ k0.2 at' ct W1 ⟨_, _, _, rfl⟩
       clear hn0
       go_wp2_with fail
       refine Hput.out.mono ?_
       rintro e W3 ⟨rfl, hb3⟩
       clear Hput
       have hR3 := Hh1.out.below hb3
       obtain ⟨g', cap', vT', eV', _, _, n0, n1, n2, _, _, hgl3⟩ := hR3.mid
       obtain ⟨curS, hgS⟩ := hR3.own (k := g) (by rw [HeV.out]; rfl)
       have eg : g' = g := by rw [HeV.out] at eV'; injection eV' with eV' _ _; injection eV' with eV'; injection eV' with eV' _ _; exact eV'.symm
       subst eg
       have hY3 := lt_blk hR3.obj
       have r1 : W3.cell? ⟨Y, 1, none⟩ = some (.slice (some ⟨g', 0, none⟩) (L1.length + 1 + L2.length) cap) := by rw [← HeV.out, cell_blk hR3.obj]; rfl
       have HR := hide hR3
       clear eV' m0 m1 m2
       go_wp2_with fail
       obtain ⟨W4, hW4⟩ : ∃ W4, W4 = W3.alloc (.cells #[.int .i64 id, .slice aT k0.1.length cT, .int .i64 k0.2] 113) := ⟨_, rfl⟩
       have hb4 : Below W3.heap.size W3 W4 := by rw [hW4]; exact (Below.refl _ _).alloc (Nat.le_refl _) _
       have hn4 : W4.heap[W3.heap.size]? = some (.cells #[.int .i64 id, .slice aT k0.1.length cT, .int .i64 k0.2] 113 (0, 0)) := by rw [hW4]; exact alloc_new _ _
       have p0 : W4.cell? ⟨W3.heap.size, 0, none⟩ = some (.int .i64 id) := by rw [cell_blk hn4]; rfl
       have p1 : W4.cell? ⟨W3.heap.size, 1, none⟩ = some (.slice aT k0.1.length cT) := by rw [cell_blk hn4]; rfl
       have p2 : W4.cell? ⟨W3.heap.size, 2, none⟩ = some (.int .i64 k0.2) := by rw [cell_blk hn4]; rfl
       have s1 := (hb4.cell (p := ⟨Y, 1, none⟩) hY3).trans r1
       have o0 := (hb4.cell (p := ⟨g', L1.length * 3, none⟩) hgl3).trans n0
       have o1 := (hb4.cell (p := ⟨g', L1.length * 3 + 1, none⟩) hgl3).trans n1
       have o2 := (hb4.cell (p := ⟨g', L1.length * 3 + 2, none⟩) hgl3).trans n2
       have hgS4 := (hb4.block g' hgl3).trans hgS
       have fz0 := frozen_blk hgS4 (L1.length * 3)
       have fz1 := frozen_blk hgS4 (L1.length * 3 + 1)
       have fz2 := frozen_blk hgS4 (L1.length * 3 + 2)
       have hlt1 : L1.length < L1.length + 1 + L2.length := by omega
       rw [← hW4]
       clear hW4 n0 n1 n2 r1 hgS
       go_region
       go_wp2
       go_ret
       refine ⟨by rw [Hcode.out]; rfl, nt, by omega, .inl ⟨.inr Hn0.out, ?_⟩⟩
       have hbd : Below W3.heap.size W3 W4.drew := hb4.drew
       have hR4 := HR.out.below hbd
       rw [HeV.out] at hR4 ⊢
       refine RefTo.trans (Only.of_below (hb1.trans ((hb3.mono hb1.size).trans (hbd.mono (Nat.le_trans hb1.size hb3.size)))) _) (fun _ hk => .inl hk) (fun _ hk => .inl hk) (RefI.set (k := k0) hR4 (((HT1.out.keep (KeepT.of_below hb3)).keep (KeepT.of_below hbd))) hoT hR4.tails hk0len hk0tok)
     · have hml : (natsOf n f).length = n := natsOf_len n f
       obtain ⟨p1, p2, p3, p4, p5⟩ := put_old c hc L1 L2 il id k0 (k0.1 ++ natsOf n f) nt Hh1.out.tails (fun x hx => List.length_pos_iff.1 (Hh1.out.len x hx).1) Hp.out (List.prefix_append _ _) Hfree.out
       have hput := refput_any Y d c hc id k0 (natsOf n f) (.slice aT k0.1.length cT) (.slice at' n ct) (L1 ++ (id, k0) :: L2) ok il nt vL vI W1 Hh1.out HT1.out (fun e => by rw [e] at hk0len; simp at hk0len) (natsOf_ints Ht1.out Hgood.out) (by rw [hml]; omega) (by rw [hml]; omega) hnt (by omega)
       have Hput := hide hput
       have Hp1 := hide p1
       have Hp2 := hide p2
       have Hp3 := hide p3
       have Hp4 := hide p4
       have Htok : Hid (∀ x ∈ k0.1 ++ natsOf n f, x < c.vocab) := fun x hx => by
         rcases List.mem_append.1 hx with hx | hx
         · exact hk0tok x hx
         · exact natsOf_tok Hgood.out x hx
       clear hput p1 p2 p3 p4 hml
       go_wp2_with fail
       refine Hput.out.mono ?_
       rintro e W3 ⟨hO3, hcase⟩
       clear Hput
       have hOw : Only (RS Y vL vI) w W3 := (Only.of_below hb1 (RS Y vL vI)).trans hO3 (fun k _ hk => .inl hk)
       have HOw := hide hOw
       clear hOw
       obtain ⟨en1, en2⟩ := putE_nt c (L1 ++ (id, k0) :: L2) il k0 (k0.1 ++ natsOf n f) nt
       rcases hcase with ⟨hfull, rfl, hobj3⟩ | ⟨hfull, v, vI', rfl, hvT, hvok, hvI, hobj3⟩
       · have Hcode : Hid (appendS c k0 ((L1 ++ L2).map (·.2)) il n f = 6) := by show _ = _; unfold appendS; rw [if_neg Hnb.out, if_neg h40, if_neg hn0, if_pos (Hp1.out.1 hfull)]
         obtain ⟨hR3, hk3⟩ := Hh1.out.counted hO3 hobj3 en1
         have Hk3 := hide hk3
         clear hk3 hfull hobj3
         obtain ⟨g', cap', vT', eV', _, _, n0, n1, n2, _, _, hgl3⟩ := hR3.mid
         obtain ⟨curS, hgS⟩ := hR3.own (k := g) (by rw [HeV.out]; rfl)
         have eg : g' = g := by rw [HeV.out] at eV'; injection eV' with eV' _ _; injection eV' with eV'; injection eV' with eV' _ _; exact eV'.symm
         subst eg
         have hY3 := lt_blk hR3.obj
         have r1 : W3.cell? ⟨Y, 1, none⟩ = some (.slice (some ⟨g', 0, none⟩) (L1.length + 1 + L2.length) cap) := by rw [← HeV.out, cell_blk hR3.obj]; rfl
         have HR := hide hR3
         clear eV' m0 m1 m2
         go_wp2_with fail
         obtain ⟨W4, hW4⟩ : ∃ W4, W4 = W3.alloc (.cells #[.int .i64 id, .slice aT k0.1.length cT, .int .i64 k0.2] 113) := ⟨_, rfl⟩
         have hb4 : Below W3.heap.size W3 W4 := by rw [hW4]; exact (Below.refl _ _).alloc (Nat.le_refl _) _
         have hn4 : W4.heap[W3.heap.size]? = some (.cells #[.int .i64 id, .slice aT k0.1.length cT, .int .i64 k0.2] 113 (0, 0)) := by rw [hW4]; exact alloc_new _ _
         have p0 : W4.cell? ⟨W3.heap.size, 0, none⟩ = some (.int .i64 id) := by rw [cell_blk hn4]; rfl
         have p1 : W4.cell? ⟨W3.heap.size, 1, none⟩ = some (.slice aT k0.1.length cT) := by rw [cell_blk hn4]; rfl
         have p2 : W4.cell? ⟨W3.heap.size, 2, none⟩ = some (.int .i64 k0.2) := by rw [cell_blk hn4]; rfl
         have s1 := (hb4.cell (p := ⟨Y, 1, none⟩) hY3).trans r1
         have o0 := (hb4.cell (p := ⟨g', L1.length * 3, none⟩) hgl3).trans n0
         have o1 := (hb4.cell (p := ⟨g', L1.length * 3 + 1, none⟩) hgl3).trans n1
         have o2 := (hb4.cell (p := ⟨g', L1.length * 3 + 2, none⟩) hgl3).trans n2
         have hgS4 := (hb4.block g' hgl3).trans hgS
         have fz0 := frozen_blk hgS4 (L1.length * 3)
         have fz1 := frozen_blk hgS4 (L1.length * 3 + 1)
         have fz2 := frozen_blk hgS4 (L1.length * 3 + 2)
         have hlt1 : L1.length < L1.length + 1 + L2.length := by omega
         rw [← hW4]
         clear hW4 n0 n1 n2 r1 hgS
         go_region
         go_wp2
         go_ret
         refine ⟨by rw [Hcode.out]; rfl, _, en2, .inl ⟨.inl (by rw [Hcode.out]; simp), ?_⟩⟩
         have hbd : Below W3.heap.size W3 W4.drew := hb4.drew
         have hR4 := HR.out.below hbd
         have hO4 : Only (RS Y vL vI) w W4.drew := HOw.out.trans (Only.of_below hbd (RS Y vL vI)) (fun _ _ h => h)
         rw [HeV.out] at hR4 hO4 ⊢
         refine RefTo.trans hO4 (fun _ hk => .inl hk) (fun _ hk => .inl hk) (RefI.set (k := k0) hR4 (((HT1.out.keep (Hk3.out _ (by decide))).keep (KeepT.of_below hbd))) hoT hR4.tails hk0len hk0tok)
       · have Hcode : Hid (appendS c k0 ((L1 ++ L2).map (·.2)) il n f = 0) := by show _ = _; unfold appendS; rw [if_neg Hnb.out, if_neg h40, if_neg hn0, if_neg (fun q => hfull (Hp1.out.2 q))]
         rw [Hp2.out] at hvI
         obtain ⟨hR3, hk3⟩ := Hh1.out.moved hO3 hobj3 en1 hvI.idle (Nat.le_trans (ilS_len _ _ _ _ _) Hh1.out.ilen) (fun p hp => Hh1.out.ilne p (ilS_mem hp))
         have hvok' : okV ok v := hvok.mono (fun b hb => Hok.out b (by omega))
         have hkey := putE_tail c (L1 ++ (id, k0) :: L2) il k0 (k0.1 ++ natsOf n f) nt
         have htle := putE_tail_le c (L1 ++ (id, k0) :: L2) il k0 (k0.1 ++ natsOf n f) nt hk0le
         obtain ⟨tl, etl⟩ : ∃ tl, tl = (putE c (L1 ++ (id, k0) :: L2) il k0 (k0.1 ++ natsOf n f) nt).tail := ⟨_, rfl⟩
         obtain ⟨nt', ent⟩ : ∃ nt', nt' = (putE c (L1 ++ (id, k0) :: L2) il k0 (k0.1 ++ natsOf n f) nt).nt := ⟨_, rfl⟩
         rw [← etl] at hkey htle ⊢
         rw [← ent] at hR3 htle en1 en2 hobj3
         have Htl := hide (tails_put (_il := il) Hh1.out.tails en1 hkey Hp3.out Hp4.out htle)
         have Hnew3 : Hid (∀ k, RS Y vL vI' k → RS Y vL vI k ∨ w.heap.size ≤ k) := fun k hk => by
           rcases hk with hk | hk | ⟨a, m, cp, e, hk⟩
           · exact .inl (.inl hk)
           · exact .inl (.inr (.inl hk))
           · right
             obtain ⟨vs', hv1, _⟩ := hvI
             have := okV.of_owns hv1 a m cp e
             rw [hk]; omega
         have Hnew4 : Hid (∀ k, atB vI' k → atB vI k ∨ w.heap.size ≤ k) := fun k ⟨a, m, cp, e, hk⟩ => by
           right
           obtain ⟨vs', hv1, _⟩ := hvI
           have := okV.of_owns hv1 a m cp e
           rw [hk]; omega
         have Hkey := hide hkey
         have HvT := hide hvT
         have Hvok := hide hvok'
         obtain ⟨av, cv, ev, _, _⟩ := hvT.slice
         obtain ⟨m, em⟩ : ∃ m, m = (k0.1 ++ natsOf n f).length := ⟨_, rfl⟩
         rw [← em] at ev
         subst ev
         clear hkey hvT hvok' hvok hvI hfull etl ent hk3 hobj3 em
         obtain ⟨g', cap', vT', eV', _, _, n0, n1, n2, _, _, hgl3⟩ := hR3.mid
         obtain ⟨curS, hgS⟩ := hR3.own (k := g) (by rw [HeV.out]; rfl)
         have eg : g' = g := by rw [HeV.out] at eV'; injection eV' with eV' _ _; injection eV' with eV'; injection eV' with eV' _ _; exact eV'.symm
         subst eg
         have hY3 := lt_blk hR3.obj
         have r1 : W3.cell? ⟨Y, 1, none⟩ = some (.slice (some ⟨g', 0, none⟩) (L1.length + 1 + L2.length) cap) := by rw [← HeV.out, cell_blk hR3.obj]; rfl
         have HR := hide hR3
         clear eV' m0 m1 m2
         go_wp2_with fail
         obtain ⟨W4, hW4⟩ : ∃ W4, W4 = W3.alloc (.cells #[.int .i64 id, .slice av m cv, .int .i64 tl] 113) := ⟨_, rfl⟩
         have hb4 : Below W3.heap.size W3 W4 := by rw [hW4]; exact (Below.refl _ _).alloc (Nat.le_refl _) _
         have hn4 : W4.heap[W3.heap.size]? = some (.cells #[.int .i64 id, .slice av m cv, .int .i64 tl] 113 (0, 0)) := by rw [hW4]; exact alloc_new _ _
         have p0 : W4.cell? ⟨W3.heap.size, 0, none⟩ = some (.int .i64 id) := by rw [cell_blk hn4]; rfl
         have p1 : W4.cell? ⟨W3.heap.size, 1, none⟩ = some (.slice av m cv) := by rw [cell_blk hn4]; rfl
         have p2 : W4.cell? ⟨W3.heap.size, 2, none⟩ = some (.int .i64 tl) := by rw [cell_blk hn4]; rfl
         have s1 := (hb4.cell (p := ⟨Y, 1, none⟩) hY3).trans r1
         have o0 := (hb4.cell (p := ⟨g', L1.length * 3, none⟩) hgl3).trans n0
         have o1 := (hb4.cell (p := ⟨g', L1.length * 3 + 1, none⟩) hgl3).trans n1
         have o2 := (hb4.cell (p := ⟨g', L1.length * 3 + 2, none⟩) hgl3).trans n2
         have hgS4 := (hb4.block g' hgl3).trans hgS
         have fz0 := frozen_blk hgS4 (L1.length * 3)
         have fz1 := frozen_blk hgS4 (L1.length * 3 + 1)
         have fz2 := frozen_blk hgS4 (L1.length * 3 + 2)
         have hlt1 : L1.length < L1.length + 1 + L2.length := by omega
         rw [← hW4]
         clear hW4 n0 n1 n2 r1 hgS
         go_region
         go_wp2
         go_ret
         refine ⟨by rw [Hcode.out]; rfl, nt', en2, .inr ⟨Hcode.out, hn0, ?_⟩⟩
         rw [← Hkey.out]
         have hbd : Below W3.heap.size W3 W4.drew := hb4.drew
         have hR4 := HR.out.below hbd
         have hO4 : Only (RS Y vL vI) w W4.drew := HOw.out.trans (Only.of_below hbd (RS Y vL vI)) (fun _ _ h => h)
         have hN := Hnew3.out
         rw [HeV.out] at hR4 hO4 hN ⊢
         refine RefTo.trans hO4 hN Hnew4.out (RefI.set (k := (k0.1 ++ natsOf n f, tl)) hR4 (HvT.out.keep (KeepT.of_below hbd)) Hvok.out Htl.out ⟨by simp; omega, by simp [natsOf_len]; omega⟩ Htok.out)
end Go.Proofs.YtlmflighkkgikaaGreat
