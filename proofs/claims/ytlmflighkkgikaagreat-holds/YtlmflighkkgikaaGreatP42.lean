import Derived.Test.YtlmflighkkgikaaGreatP26
import Derived.Test.YtlmflighkkgikaaGreatP38
import Derived.Test.YtlmflighkkgikaaGreatP41

namespace Go.Proofs.YtlmflighkkgikaaGreat
open Go.RowKit
attribute [local go_sem ↓] Go.wp_at_zero Go.wp_at_succ
theorem refdecode_none (Y d : Nat) (c : Cfg) (id n : Int) (L : List (Int × Key)) (ok : Nat → Prop) (il : List (List Nat)) (nt : Nat) (vL vI : Value) (w : World) (h : RefI ok w Y d c L il nt vL vI) (hno : assoc L id = none) :
   Calls Tryz.prog 49 #[.pointer (some ⟨Y, 0, none⟩), .int .i64 id, .int .i64 n] w fun e w' => e = .returned (.tuple #[.slice none 0 0, .int .i64 3]) ∧ w' = w := by
 have y1 : w.cell? ⟨Y, 1, none⟩ = some vL := by rw [cell_blk h.obj]; rfl
 have hf := reffind_none Y id vL L ok w y1 h.seqs (by have := h.many; omega) hno
 have Hf := hide hf
 clear hf h hno
 go_enter Tryz.func49, Tryz.ntmps49
 go_wp2_with fail
 refine Calls_use Hf.out ?_
 go_wp2
 go_ret2
 exact ⟨rfl, rfl⟩
def RefDecoded (ok : Nat → Prop) (w : World) (Y d : Nat) (c : Cfg) (L1 L2 : List (Int × Key)) (il : List (List Nat)) (nt : Nat) (vL vI : Value) (id : Int) (k0 : Key) (n : Int) (e : Ending) (w' : World) : Prop :=
 (decodeS c k0 ((L1 ++ L2).map (·.2)) il n ≠ 0 ∧ e = .returned (.tuple #[.slice none 0 0, .int .i64 (decodeS c k0 ((L1 ++ L2).map (·.2)) il n)]) ∧ ∃ nt', nt' ≤ nt + 1 ∧ RefTo ok w Y d c vL vI (L1 ++ (id, k0) :: L2) il nt' w') ∨
 (decodeS c k0 ((L1 ++ L2).map (·.2)) il n = 0 ∧ ∃ v, e = .returned (.tuple #[v, .int .i64 0]) ∧ IntsT w' v n.toNat (fun j => tkI (goTo c k0.1 n.toNat) (k0.1.length + j)) ∧ ∃ nt', nt' ≤ nt + 1 ∧
   ((n = 0 ∧ RefTo ok w Y d c vL vI (L1 ++ (id, k0) :: L2) il nt' w') ∨
    (n ≠ 0 ∧ RefTo ok w Y d c vL vI (L1 ++ (id, endKey c.slots (goTo c k0.1 n.toNat) (putTn c (L1 ++ (id, k0) :: L2) il k0 (goTo c k0.1 n.toNat) nt)) :: L2) (ilS c k0 ((L1 ++ L2).map (·.2)) il (goTo c k0.1 n.toNat)) nt' w')))
theorem goTo_tok (c : Cfg) (hc : c.ok) (T : List Nat) (n : Nat) (h : ∀ x ∈ T, x < c.vocab) : ∀ x ∈ goTo c T n, x < c.vocab := by
 induction n with
 | zero => exact h
 | succ n ih =>
   intro x hx
   simp only [goTo] at hx
   rcases List.mem_append.1 hx with hx | hx
   · exact ih x hx
   · simp at hx; rw [hx]; exact nextOf_lt c hc _
theorem tkN_mem (T : List Nat) (j : Nat) (h : j < T.length) : tkN T j ∈ T := by
 unfold tkN
 rw [List.getD_eq_getElem?_getD, List.getElem?_eq_getElem h]
 exact List.getElem_mem h
theorem goTo_split (c : Cfg) (T : List Nat) (n : Nat) (hT : 0 < T.length) : goTo c T n = T ++ (goTo c T n).drop T.length := by
 have h := (goTo_goesOn c T n hT).pre
 conv => lhs; rw [← List.take_append_drop T.length (goTo c T n)]
 rw [h]
set_option maxRecDepth 100000 in
set_option maxHeartbeats 8000000 in
theorem refdecode_some (Y d : Nat) (c : Cfg) (hc : c.ok) (id n : Int) (L1 L2 : List (Int × Key)) (ok : Nat → Prop) (il : List (List Nat)) (nt : Nat) (vL vI : Value) (k0 : Key) (w : World) (h : RefI ok w Y d c (L1 ++ (id, k0) :: L2) il nt vL vI) (hno : assoc L1 id = none) (hn64 : -9223372036854775808 ≤ n ∧ n ≤ 9223372036854775807) (hnt : nt ≤ 5000000000000) (hok : ∀ b, w.heap.size ≤ b → ok b)
   (hp : Pure c.slots c.vocab ((L1 ++ (id, k0) :: L2).map (·.2)) il) (hfree : nUsed c.slots ((L1 ++ (id, k0) :: L2).map (·.2)) + il.length ≤ c.blocks) :
   Calls Tryz.prog 49 #[.pointer (some ⟨Y, 0, none⟩), .int .i64 id, .int .i64 n] w fun e w' => RefDecoded ok w Y d c L1 L2 il nt vL vI id k0 n e w' := by
 obtain ⟨i0, hi, hz0, hz1, hz2⟩ := info_parts Tryz.info_int
 have hYl := lt_blk h.obj
 have y0 : w.cell? ⟨Y, 0, none⟩ = some (.pointer (some ⟨d, 0, none⟩)) := by rw [cell_blk h.obj]; rfl
 have y1 : w.cell? ⟨Y, 1, none⟩ = some vL := by rw [cell_blk h.obj]; rfl
 have hmany := h.many
 have hmem : (id, k0) ∈ L1 ++ (id, k0) :: L2 := by simp
 have hk0le : k0.2 ≤ nt := h.tails.le _ hmem
 have hk0len : 1 ≤ k0.1.length ∧ k0.1.length ≤ 40 := h.len _ hmem
 have hk0tok : ∀ x ∈ k0.1, x < c.vocab := h.toks _ hmem
 obtain ⟨g, cap, vT, eV, hc1, hc2, c0, c1, c2, hT, hoT, hgl⟩ := h.mid
 have hln : (L1 ++ (id, k0) :: L2).length = L1.length + 1 + L2.length := by simp; omega
 rw [hln] at hc1 hmany eV
 unfold maxLen at hc2
 have hf := reffind_at Y id vL L1 L2 k0 ok w y1 h.seqs (by omega) hno
 have Hf := hide hf
 have Hok := hide hok
 have Hp := hide hp
 have Hfree := hide hfree
 obtain ⟨aT, cT, eT, hcT, _⟩ := hT.slice
 subst eT
 have k1 : w.cell? ⟨Y, 1, none⟩ = some (.slice (some ⟨g, 0, none⟩) (L1.length + 1 + L2.length) cap) := by rw [← eV]; exact y1
 have Hh := hide h
 have HT := hide hT
 have HeV := hide eV
 have Hsame : Hid (∀ code : Nat, decodeS c k0 ((L1 ++ L2).map (·.2)) il n = code → code ≠ 0 → RefDecoded ok w Y d c L1 L2 il nt vL vI id k0 n (.returned (.tuple #[.slice none 0 0, .int .i64 code])) w) := by
   show ∀ code : Nat, _ → _ → _
   intro code hcode h0
   exact .inl ⟨by rw [hcode]; exact h0, by rw [hcode], nt, by omega, RefTo.of_ref Hh.out (Only.refl _ _)⟩
 clear hok hp hfree hf h hT y1 eV
 go_enter Tryz.func49, Tryz.ntmps49
 go_wp2_with fail
 refine Calls_use Hf.out ?_
 clear Hf
 by_cases hn0 : n < 0
 · have Hcode : Hid (decodeS c k0 ((L1 ++ L2).map (·.2)) il n = 1) := by show _ = _; unfold decodeS; rw [if_pos hn0]
   go_wp2
   go_ret2
   exact Hsame.out 1 Hcode.out (by omega)
 · by_cases h40 : 40 < (k0.1.length : Int) + n
   · have Hcode : Hid (decodeS c k0 ((L1 ++ L2).map (·.2)) il n = 5) := by show _ = _; unfold decodeS; rw [if_neg hn0, if_pos h40]
     have h40' : 40 - (k0.1.length : Int) < n := by omega
     go_wp2
     go_ret2
     exact Hsame.out 5 Hcode.out (by omega)
   · obtain ⟨m, em⟩ : ∃ m : Nat, n = m := ⟨n.toNat, by omega⟩
     subst em
     have h40' : ¬ 40 - (k0.1.length : Int) < (m : Int) := by omega
     have hm40 : k0.1.length + m ≤ 40 := by omega
     have Hn0 := hide hn0
     have H40 := hide h40
     clear hn0 h40 hn64
     obtain ⟨bT, oT, ea, hbT, hcTc⟩ : ∃ b off, aT = some ⟨b, off, none⟩ ∧ b < w.heap.size ∧ ∀ j, j < k0.1.length → w.cell? ⟨b, off + j, none⟩ = some (.int .i64 (tkI k0.1 j)) := by
       obtain ⟨a', c', e, _, _, h3⟩ := HT.out.ints
       injection e with e1 _ _
       rw [e1]
       exact h3 (by omega)
     subst ea
     have Hnews := hide (ints_news (Below.refl w.heap.size w) hbT hcTc)
     clear hcTc
     go_upto_region 9 with fail
     go_cut [9] from 36 to 45 (fun t wc => ∃ a cp, t = .slice a k0.1.length cp ∧ wc.ownsRow w.heap.size 3 1 (.slice a k0.1.length cp) k0.1.length ((List.range k0.1.length).map fun i => .int .i64 (tkI k0.1 i)) ∧ Below w.heap.size w wc)
     case first =>
       go_wp2_with (at_builtin; refine wpList_append_own _ rfl _ _ 36 rfl w.heap.size 3 i0 (.int .i64 0) 1 8 Tryz.underlying36 hi hz0 hz1 hz2 rfl (by decide) (.slice none 0 0) 0 [] rfl (World.ownsRow_nil _ _ _ _) ⟨bT, oT, none⟩ k0.1.length cT ((List.range k0.1.length).map fun i => .int .i64 (tkI k0.1 i)) rfl (by simp) Hnews.out (ints_one _ _) (by unfold maxLen; omega) (by omega) (Nat.le_refl _) ?_; intro v1 W1 hown1 hgrow1 _)
       rw [List.nil_append] at hown1
       simp only [Nat.zero_add] at hown1
       obtain ⟨a1, c1, e1⟩ := owns_form hown1
       subst e1
       go_meet
       exact ⟨a1, c1, rfl, hown1, (Below.refl _ _).grown hgrow1 (Nat.le_refl _) (fun k hk => by cases hk)⟩
     case rest =>
       obtain ⟨a1, cp1, e1, hown1, hbA⟩ := hcut
       obtain ⟨WA, hWA⟩ : ∃ WA, WA = wc := ⟨_, rfl⟩
       rw [← hWA] at hown1 hbA ⊢
       clear hWA
       subst e1
       have HdA := hide Hh.out.dec
       go_wp2
       go_loopw [9, 10] (fun t i wr => ∃ j : Nat, j ≤ m ∧ i = .int .i64 j ∧ ∃ a cp, t = .slice a (k0.1.length + j) cp ∧ Hid (wr.ownsRow w.heap.size 3 1 (.slice a (k0.1.length + j) cp) (k0.1.length + j) ((List.range (k0.1.length + j)).map fun i => .int .i64 (tkI (goTo c k0.1 j) i))) ∧ Below w.heap.size w wr) (fun _ i _ => m - (intOf i).toNat)
       case atStart => exact ⟨0, Nat.zero_le _, rfl, a1, cp1, rfl, hown1, hbA⟩
       case round =>
         obtain ⟨j, hj, rfl, aj, cj, ej, Hownj, hbj⟩ := hrel
         subst ej
         have hszj := hbj.size
         have q0 := (hbj.cell (p := ⟨Y, 0, none⟩) hYl).trans y0
         have hgl' := goTo_len c k0.1 j
         by_cases hlt : j < m
         · have hit : IntsT wr (.slice aj (k0.1.length + j) cj) (k0.1.length + j) (fun i => (tkN (goTo c k0.1 j) i : Int)) := IntsT.of_owns Hownj.out
           have hnx := refnext_any c hc d (k0.1.length + j) _ (tkN (goTo c k0.1 j)) wr (HdA.out.below hbj) hit (fun i hi => goTo_tok c hc k0.1 j hk0tok _ (tkN_mem _ _ (by omega))) (by omega) (by omega)
           have Hnx := hide hnx
           clear hnx hit
           go_wp2_with fail
           refine Hnx.out.mono ?_
           rintro e W5 ⟨rfl, hb5⟩
           have hb5' := hbj.trans (hb5.mono hszj)
           have hsz5 := hb5'.size
           have hown5 := owns_below' Hownj.out hb5
           obtain ⟨x, ex⟩ : ∃ x, x = nextOf c (xIn c (tkN (goTo c k0.1 j)) (k0.1.length + j - 1) c.layers) := ⟨_, rfl⟩
           rw [← ex]
           have Hgo : Hid (goTo c k0.1 (j + 1) = goTo c k0.1 j ++ [x]) := by show _ = _; simp only [goTo]; rw [ex, hgl']
           clear ex Hnx
           go_wp2_with (at_builtin; refine wpList_append_own _ rfl _ _ 36 rfl w.heap.size 3 i0 (.int .i64 0) 1 8 Tryz.underlying36 hi hz0 hz1 hz2 rfl (by decide) (.slice aj (k0.1.length + j) cj) (k0.1.length + j) _ rfl (hown5.alloc _) ⟨W5.heap.size, 0, none⟩ 1 1 [.int .i64 x] rfl rfl (one_new W5 _ _) (one_int _) (by unfold maxLen; omega) (by omega) (by simp; omega) ?_; intro v6 W6 hown6 hgrow6 _; obtain ⟨a6, c6, e6⟩ := owns_form hown6; subst e6)
           have hb6 : Below w.heap.size w W6 := (hb5'.alloc hsz5 _).grown hgrow6 (by simp; omega) (fun k hk => (hown5.lt k hk).1)
           have Hown6 : Hid (W6.ownsRow w.heap.size 3 1 (.slice a6 (k0.1.length + (j + 1)) c6) (k0.1.length + (j + 1)) ((List.range (k0.1.length + (j + 1))).map fun i => .int .i64 (tkI (goTo c k0.1 (j + 1)) i))) := by
             show World.ownsRow _ _ _ _ _ _ _
             have e := tk_append (goTo c k0.1 j) [x]
             rw [← Hgo.out, goTo_len, goTo_len] at e
             rw [← e, show k0.1.length + (j + 1) = k0.1.length + j + 1 by omega]
             simpa [tkI, tkN] using hown6
           clear hown6 hgrow6 hown5
           go_wp2
           go_roundw
           case rel => exact ⟨j + 1, by omega, by go_num, a6, c6, by go_num, Hown6.out, hb6⟩
           case measure => simp [intOf]; omega
         · have hje : j = m := by omega
           subst hje
           obtain ⟨T, eT⟩ : ∃ T, T = goTo c k0.1 j := ⟨_, rfl⟩
           rw [← eT] at Hownj hgl'
           have HTe := hide eT
           have HTl := hide hgl'
           obtain ⟨W1, hW1⟩ : ∃ W1, W1 = wr := ⟨_, rfl⟩
           rw [← hW1] at Hownj hbj hszj q0 ⊢
           have hb1 := hbj
           clear hW1 eT hgl' hlt hbj
           obtain ⟨b, eaj, hbw⟩ : ∃ b, aj = some ⟨b, 0, none⟩ ∧ w.heap.size ≤ b := by
             obtain ⟨_, ⟨_, e⟩ | ⟨g', cap', cur', e', hg', _⟩⟩ := Hownj.out
             · omega
             · injection e' with e' _ _
               exact ⟨g', e', hg'⟩
           subst eaj
           have hcj : k0.1.length + j ≤ cj := by
             obtain ⟨a', c', e, h1, _⟩ := (IntsT.of_owns Hownj.out).ints
             cases e; exact h1
           have hcm : cj ≤ 9223372036854775807 := by
             obtain ⟨a', c', e, _, h2, _⟩ := (IntsT.of_owns Hownj.out).ints
             cases e; unfold maxLen at h2; omega
           have q1 := (hb1.cell (p := ⟨Y, 1, none⟩) hYl).trans k1
           have m0 := (hb1.cell (p := ⟨g, L1.length * 3, none⟩) hgl).trans c0
           have m1 := (hb1.cell (p := ⟨g, L1.length * 3 + 1, none⟩) hgl).trans c1
           have m2 := (hb1.cell (p := ⟨g, L1.length * 3 + 2, none⟩) hgl).trans c2
           have Hh1 := hide (Hh.out.below hb1)
           go_upto_region 14 with fail
           go_cut [11] from 60 to 70 (fun v wd => ∃ a cp, v = .slice a j cp ∧ (0 < j → a = some ⟨b, k0.1.length, none⟩) ∧ j ≤ cp ∧ cp ≤ 9223372036854775807 ∧ wd = W1)
           case first =>
             by_cases hcap : cj = k0.1.length
             · have hj0 : j = 0 := by omega
               have Hj0 := hide hj0
               clear hj0
               subst hcap
               go_wp2
               go_meet
               exact ⟨_, _, by rw [Hj0.out], fun h => absurd h (by rw [Hj0.out]; omega), by rw [Hj0.out]; omega, by omega, rfl⟩
             · have hlt : k0.1.length < cj := by omega
               go_wp2
               go_meet
               exact ⟨_, _, rfl, fun _ => by simp, by omega, by omega, rfl⟩
           case rest =>
             obtain ⟨am, cm, em, ham, hcm1, hcm2, ew⟩ := hcut
             subst em
             rw [ew]
             clear ew
             by_cases hj0 : j = 0
             · have Hcode : Hid (decodeS c k0 ((L1 ++ L2).map (·.2)) il (j : Int) = 0) := by show _ = _; unfold decodeS; rw [if_neg (by omega), if_neg (by omega), if_pos (by omega)]
               have Hn0' : Hid ((j : Int) = 0) := by show _ = _; omega
               have Hzero : Hid (∀ W a cp, j ≤ cp → cp ≤ 9223372036854775807 → IntsT W (.slice a j cp) (j : Int).toNat (fun i => tkI (goTo c k0.1 (j : Int).toNat) (k0.1.length + i))) := by
                 show ∀ W a cp, _ → _ → _
                 intro W a cp h1 h2
                 exact ⟨a, cp, by simp, by simpa using h1, by unfold maxLen; omega, fun h => absurd h (by simp; omega)⟩
               have Hput : Hid (Calls Tryz.prog 73 #[.pointer (some ⟨Y, 0, none⟩), .agg #[.int .i64 id, .slice (some ⟨bT, oT, none⟩) k0.1.length cT, .int .i64 k0.2], .slice am j cm] W1 fun e w' => e = .returned (.tuple #[.agg #[.int .i64 id, .slice (some ⟨bT, oT, none⟩) k0.1.length cT, .int .i64 k0.2], .int .i64 0]) ∧ Below W1.heap.size W1 w') := by
                 show Calls _ _ _ _ _
                 rw [hj0]; exact refput_nil Y id _ k0.2 am cm W1 ⟨_, _, _, rfl⟩
               have Hj0 := hide hj0
               clear hj0
               go_wp2_with fail
               refine Hput.out.mono ?_
               rintro e W3 ⟨rfl, hb3⟩
               clear Hput
               have hR3 := Hh1.out.below hb3
               obtain ⟨g', cap', vT', eV', _, _, n0, n1, n2, _, _, hgl3⟩ := hR3.mid
               obtain ⟨curS, hgS⟩ := hR3.own (k := g) (by rw [HeV.out]; rfl)
               have eg : g' = g := by rw [HeV.out] at eV'; injection eV' with eV' _ _; injection eV' with eV'; injection eV' with eV' _ _; exact eV'.symm
               subst eg
               have hY3 := lt_blk hR3.obj
               have r1 : W3.cell? ⟨Y, 1, none⟩ = some (.slice (some ⟨g', 0, none⟩) (L1.length + 1 + L2.length) cap) := by rw [← HeV.out, cell_blk hR3.obj]; rfl
               have HR := hide hR3
               clear eV'
               go_wp2_with fail
               obtain ⟨W4, hW4⟩ : ∃ W4, W4 = W3.alloc (.cells #[.int .i64 id, .slice (some ⟨bT, oT, none⟩) k0.1.length cT, .int .i64 k0.2] 113) := ⟨_, rfl⟩
               have hb4 : Below W3.heap.size W3 W4 := by rw [hW4]; exact (Below.refl _ _).alloc (Nat.le_refl _) _
               have hn4 : W4.heap[W3.heap.size]? = some (.cells #[.int .i64 id, .slice (some ⟨bT, oT, none⟩) k0.1.length cT, .int .i64 k0.2] 113 (0, 0)) := by rw [hW4]; exact alloc_new _ _
               have p0 : W4.cell? ⟨W3.heap.size, 0, none⟩ = some (.int .i64 id) := by rw [cell_blk hn4]; rfl
               have p1 : W4.cell? ⟨W3.heap.size, 1, none⟩ = some (.slice (some ⟨bT, oT, none⟩) k0.1.length cT) := by rw [cell_blk hn4]; rfl
               have p2 : W4.cell? ⟨W3.heap.size, 2, none⟩ = some (.int .i64 k0.2) := by rw [cell_blk hn4]; rfl
               have s1 := (hb4.cell (p := ⟨Y, 1, none⟩) hY3).trans r1
               have o0 := (hb4.cell (p := ⟨g', L1.length * 3, none⟩) hgl3).trans n0
               have o1 := (hb4.cell (p := ⟨g', L1.length * 3 + 1, none⟩) hgl3).trans n1
               have o2 := (hb4.cell (p := ⟨g', L1.length * 3 + 2, none⟩) hgl3).trans n2
               have hgS4 := (hb4.block g' hgl3).trans hgS
               have fz0 := frozen_blk hgS4 (L1.length * 3)
               have fz1 := frozen_blk hgS4 (L1.length * 3 + 1)
               have fz2 := frozen_blk hgS4 (L1.length * 3 + 2)
               have hlt1 : L1.length < L1.length + 1 + L2.length := by omega
               have kset : ∀ (e : TypeId), e ≠ 113 → KeepT e W4 (((W4.drew.setCell ⟨g', L1.length * 3, none⟩ (.int .i64 id)).setCell ⟨g', L1.length * 3 + 1, none⟩ (.slice (some ⟨bT, oT, none⟩) k0.1.length cT)).setCell ⟨g', L1.length * 3 + 2, none⟩ (.int .i64 k0.2)) := fun e he => by
                 have hd : W4.drew.heap[g']? = some (.cells curS 113 (0, 0)) := hgS4
                 exact ((show KeepT e W4 W4.drew from fun _ _ _ h => h).trans (KeepT.setCell hd he _)).trans ((KeepT.setCell (setCell_blk hd _ _) he _).trans (KeepT.setCell (setCell_blk (setCell_blk hd _ _) _ _) he _))
               have Kset := hide kset
               rw [← hW4]
               clear hW4 n0 n1 n2 r1 hgS kset
               go_region
               go_wp2
               go_ret2
               refine .inr ⟨Hcode.out, _, rfl, ?_, nt, by omega, .inl ⟨Hn0'.out, ?_⟩⟩
               · exact Hzero.out _ _ _ hcm1 hcm2
               · have hbd : Below W3.heap.size W3 W4.drew := hb4.drew
                 have hR4 := HR.out.below hbd
                 rw [HeV.out] at hR4 ⊢
                 refine RefTo.trans (Only.of_below (hb1.trans ((hb3.mono hb1.size).trans (hbd.mono (Nat.le_trans hb1.size hb3.size)))) _) (fun _ hk => .inl hk) (fun _ hk => .inl hk) (RefI.set (k := k0) hR4 ((((HT.out.keep (KeepT.of_below hb1)).keep (KeepT.of_below hb3)).keep (KeepT.of_below hbd))) hoT hR4.tails hk0len hk0tok)
             · have ea := ham (by omega)
               subst ea
               have hml : (T.drop k0.1.length).length = j := by rw [List.length_drop]; have := HTl.out; omega
               have hsp : T = k0.1 ++ T.drop k0.1.length := by rw [HTe.out]; exact goTo_split c k0.1 j (by omega)
               have Hmore : Hid (IntsT W1 (.slice (some ⟨b, k0.1.length, none⟩) j cm) (j : Int).toNat (fun i => tkI (goTo c k0.1 (j : Int).toNat) (k0.1.length + i))) := by
                 show IntsT _ _ _ _
                 have hq := Hownj.out
                 obtain ⟨_, ⟨e, _⟩ | ⟨g', cap', cur', e', hg', hh', hn', hm', hs', ht'⟩⟩ := hq
                 · cases e
                 · cases e'
                   refine ⟨_, cm, by simp, by simpa using hcm1, by unfold maxLen; omega, fun _ => ⟨b, k0.1.length, cur', (0, 0), rfl, hh', fun i hi => ?_⟩⟩
                   simp at hi
                   have := congrArg (fun l => l[k0.1.length + i]?) ht'
                   simp only [Nat.mul_one] at this
                   rw [List.getElem?_take_of_lt (by omega), List.getElem?_map, List.getElem?_range (by omega)] at this
                   rw [HTe.out] at this
                   simpa using this
               have Hvm : Hid (Ints W1 (.slice (some ⟨b, k0.1.length, none⟩) j cm) (T.drop k0.1.length).length (tkI (T.drop k0.1.length))) := by
                 show Ints _ _ _ _
                 rw [hml]
                 have hq := Hmore.out.ints
                 simp only [Int.toNat_natCast] at hq
                 refine hq.congr (fun i hi => ?_)
                 rw [← HTe.out]
                 unfold tkI tkN
                 rw [List.getD_eq_getElem?_getD, List.getD_eq_getElem?_getD, List.getElem?_drop]
               obtain ⟨p1, p2, p3, p4, p5⟩ := put_old c hc L1 L2 il id k0 T nt Hh1.out.tails (fun x hx => List.length_pos_iff.1 (Hh1.out.len x hx).1) Hp.out (by rw [hsp]; exact List.prefix_append _ _) Hfree.out
               have hput := refput_any Y d c hc id k0 (T.drop k0.1.length) (.slice (some ⟨bT, oT, none⟩) k0.1.length cT) (.slice (some ⟨b, k0.1.length, none⟩) j cm) (L1 ++ (id, k0) :: L2) ok il nt vL vI W1 Hh1.out (HT.out.keep (KeepT.of_below hb1)) (fun e => by rw [e] at hk0len; simp at hk0len) Hvm.out (by rw [hml]; omega) (by rw [hml]; omega) hnt (by omega)
               rw [← hsp] at hput
               have Hput := hide hput
               have Hp1 := hide p1
               have Hp2 := hide p2
               have Hp3 := hide p3
               have Hp4 := hide p4
               have Htok : Hid (∀ x ∈ T, x < c.vocab) := by show ∀ x ∈ T, _; rw [HTe.out]; exact goTo_tok c hc k0.1 j hk0tok
               have Hnn : Hid ((j : Int) ≠ 0) := by show _ ≠ _; omega
               have HTj : Hid (goTo c k0.1 (j : Int).toNat = T) := by show _ = _; rw [HTe.out]; simp
               clear hput p1 p2 p3 p4 p5 hml hsp ham
               go_wp2_with fail
               refine Hput.out.mono ?_
               rintro e W3 ⟨hO3, hcase⟩
               clear Hput
               have hOw : Only (RS Y vL vI) w W3 := (Only.of_below hb1 (RS Y vL vI)).trans hO3 (fun k _ hk => .inl hk)
               have HOw := hide hOw
               clear hOw
               obtain ⟨en1, en2⟩ := putE_nt c (L1 ++ (id, k0) :: L2) il k0 T nt
               rcases hcase with ⟨hfull, rfl, hobj3⟩ | ⟨hfull, v, vI', rfl, hvT, hvok, hvI, hobj3⟩
               · have Hcode : Hid (decodeS c k0 ((L1 ++ L2).map (·.2)) il (j : Int) = 6) := by show _ = _; unfold decodeS; rw [if_neg (by omega), if_neg (by omega), if_neg Hnn.out, HTj.out, if_pos (Hp1.out.1 hfull)]
                 obtain ⟨hR3, hk3⟩ := Hh1.out.counted hO3 hobj3 en1
                 have HR3 := hide hR3
                 clear hk3 hfull hobj3 hR3
                 go_wp2
                 go_ret2
                 have hba : Below W3.heap.size W3 (W3.alloc (.cells #[.int .i64 id, .slice (some ⟨bT, oT, none⟩) k0.1.length cT, .int .i64 k0.2] 113)) := (Below.refl _ _).alloc (Nat.le_refl _) _
                 exact .inl ⟨by rw [Hcode.out]; simp, by rw [Hcode.out]; rfl, _, en2, RefTo.of_ref (HR3.out.below hba) (HOw.out.trans (Only.of_below hba (RS Y vL vI)) (fun _ _ h => h))⟩
               · have Hcode : Hid (decodeS c k0 ((L1 ++ L2).map (·.2)) il (j : Int) = 0) := by show _ = _; unfold decodeS; rw [if_neg (by omega), if_neg (by omega), if_neg Hnn.out, HTj.out, if_neg (fun q => hfull (Hp1.out.2 q))]
                 rw [Hp2.out] at hvI
                 obtain ⟨hR3, hk3⟩ := Hh1.out.moved hO3 hobj3 en1 hvI.idle (Nat.le_trans (ilS_len _ _ _ _ _) Hh1.out.ilen) (fun p hp => Hh1.out.ilne p (ilS_mem hp))
                 have Hk3 := hide hk3
                 have hvok' : okV ok v := hvok.mono (fun x hx => Hok.out x (by omega))
                 have hkey := putE_tail c (L1 ++ (id, k0) :: L2) il k0 T nt
                 have htle := putE_tail_le c (L1 ++ (id, k0) :: L2) il k0 T nt hk0le
                 obtain ⟨tl, etl⟩ : ∃ tl, tl = (putE c (L1 ++ (id, k0) :: L2) il k0 T nt).tail := ⟨_, rfl⟩
                 obtain ⟨nt', ent⟩ : ∃ nt', nt' = (putE c (L1 ++ (id, k0) :: L2) il k0 T nt).nt := ⟨_, rfl⟩
                 rw [← etl] at hkey htle ⊢
                 rw [← ent] at hR3 htle en1 en2 hobj3
                 have Htl := hide (tails_put (_il := il) Hh1.out.tails en1 hkey Hp3.out Hp4.out htle)
                 have Hnew3 : Hid (∀ k, RS Y vL vI' k → RS Y vL vI k ∨ w.heap.size ≤ k) := fun k hk => by
                   rcases hk with hk | hk | ⟨a, m, cp, e, hk⟩
                   · exact .inl (.inl hk)
                   · exact .inl (.inr (.inl hk))
                   · right
                     obtain ⟨vs', hv1, _⟩ := hvI
                     have := okV.of_owns hv1 a m cp e
                     rw [hk]; omega
                 have Hnew4 : Hid (∀ k, atB vI' k → atB vI k ∨ w.heap.size ≤ k) := fun k ⟨a, m, cp, e, hk⟩ => by
                   right
                   obtain ⟨vs', hv1, _⟩ := hvI
                   have := okV.of_owns hv1 a m cp e
                   rw [hk]; omega
                 have Hkey : Hid ((T, tl) = endKey c.slots (goTo c k0.1 (j : Int).toNat) (putTn c (L1 ++ (id, k0) :: L2) il k0 (goTo c k0.1 (j : Int).toNat) nt)) := by show _ = _; rw [HTj.out]; exact hkey
                 have HvT := hide hvT
                 have Hvok := hide hvok'
                 rw [show ilS c k0 ((L1 ++ L2).map (·.2)) il T = ilS c k0 ((L1 ++ L2).map (·.2)) il (goTo c k0.1 (j : Int).toNat) by rw [HTj.out]] at hR3
                 obtain ⟨av, cv, ev, _, _⟩ := hvT.slice
                 obtain ⟨mv, emv⟩ : ∃ mv, mv = T.length := ⟨_, rfl⟩
                 rw [← emv] at ev
                 subst ev
                 clear hkey hvT hvok' hvok hvI hfull etl ent hk3 hobj3 emv
                 obtain ⟨g', cap', vT', eV', _, _, n0, n1, n2, _, _, hgl3⟩ := hR3.mid
                 obtain ⟨curS, hgS⟩ := hR3.own (k := g) (by rw [HeV.out]; rfl)
                 have eg : g' = g := by rw [HeV.out] at eV'; injection eV' with eV' _ _; injection eV' with eV'; injection eV' with eV' _ _; exact eV'.symm
                 subst eg
                 have hY3 := lt_blk hR3.obj
                 have r1 : W3.cell? ⟨Y, 1, none⟩ = some (.slice (some ⟨g', 0, none⟩) (L1.length + 1 + L2.length) cap) := by rw [← HeV.out, cell_blk hR3.obj]; rfl
                 have HR := hide hR3
                 clear eV'
                 go_wp2_with fail
                 obtain ⟨W4, hW4⟩ : ∃ W4, W4 = W3.alloc (.cells #[.int .i64 id, .slice av mv cv, .int .i64 tl] 113) := ⟨_, rfl⟩
                 have hb4 : Below W3.heap.size W3 W4 := by rw [hW4]; exact (Below.refl _ _).alloc (Nat.le_refl _) _
                 have hn4 : W4.heap[W3.heap.size]? = some (.cells #[.int .i64 id, .slice av mv cv, .int .i64 tl] 113 (0, 0)) := by rw [hW4]; exact alloc_new _ _
                 have p0 : W4.cell? ⟨W3.heap.size, 0, none⟩ = some (.int .i64 id) := by rw [cell_blk hn4]; rfl
                 have p1 : W4.cell? ⟨W3.heap.size, 1, none⟩ = some (.slice av mv cv) := by rw [cell_blk hn4]; rfl
                 have p2 : W4.cell? ⟨W3.heap.size, 2, none⟩ = some (.int .i64 tl) := by rw [cell_blk hn4]; rfl
                 have s1 := (hb4.cell (p := ⟨Y, 1, none⟩) hY3).trans r1
                 have o0 := (hb4.cell (p := ⟨g', L1.length * 3, none⟩) hgl3).trans n0
                 have o1 := (hb4.cell (p := ⟨g', L1.length * 3 + 1, none⟩) hgl3).trans n1
                 have o2 := (hb4.cell (p := ⟨g', L1.length * 3 + 2, none⟩) hgl3).trans n2
                 have hgS4 := (hb4.block g' hgl3).trans hgS
                 have fz0 := frozen_blk hgS4 (L1.length * 3)
                 have fz1 := frozen_blk hgS4 (L1.length * 3 + 1)
                 have fz2 := frozen_blk hgS4 (L1.length * 3 + 2)
                 have hlt1 : L1.length < L1.length + 1 + L2.length := by omega
                 have kset : ∀ (e : TypeId), e ≠ 113 → KeepT e W4 (((W4.drew.setCell ⟨g', L1.length * 3, none⟩ (.int .i64 id)).setCell ⟨g', L1.length * 3 + 1, none⟩ (.slice av mv cv)).setCell ⟨g', L1.length * 3 + 2, none⟩ (.int .i64 tl)) := fun e he => by
                   have hd : W4.drew.heap[g']? = some (.cells curS 113 (0, 0)) := hgS4
                   exact ((show KeepT e W4 W4.drew from fun _ _ _ h => h).trans (KeepT.setCell hd he _)).trans ((KeepT.setCell (setCell_blk hd _ _) he _).trans (KeepT.setCell (setCell_blk (setCell_blk hd _ _) _ _) he _))
                 have Kset := hide kset
                 rw [← hW4]
                 clear hW4 n0 n1 n2 r1 hgS kset
                 go_region
                 go_wp2
                 go_ret2
                 refine .inr ⟨Hcode.out, _, rfl, ?_, nt', en2, .inr ⟨Hnn.out, ?_⟩⟩
                 · exact (((Hmore.out.keep (Hk3.out _ (by decide))).keep (KeepT.of_below hb4)).keep (Kset.out _ (by decide)))
                 rw [← Hkey.out]
                 have hbd : Below W3.heap.size W3 W4.drew := hb4.drew
                 have hR4 := HR.out.below hbd
                 have hO4 : Only (RS Y vL vI) w W4.drew := HOw.out.trans (Only.of_below hbd (RS Y vL vI)) (fun _ _ h => h)
                 have hN := Hnew3.out
                 rw [HeV.out] at hR4 hO4 hN ⊢
                 refine RefTo.trans hO4 hN Hnew4.out (RefI.set (k := (T, tl)) hR4 (HvT.out.keep (KeepT.of_below hbd)) Hvok.out Htl.out ⟨by show 1 ≤ T.length; have := HTl.out; omega, by show T.length ≤ 40; have := HTl.out; omega⟩ Htok.out)
end Go.Proofs.YtlmflighkkgikaaGreat
