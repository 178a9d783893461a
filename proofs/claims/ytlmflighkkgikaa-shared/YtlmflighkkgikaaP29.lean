import Derived.Test.YtlmflighkkgikaaP28

namespace Go.Proofs.Ytlmflighkkgikaa
open Go.RowKit
attribute [local go_sem ↓] Go.wp_at_zero Go.wp_at_succ
section
variable {F ok : Nat → Prop} {w w' : World} {g : Parts} {c : Cfg} {B : Key → Option Nat} {U : Key → Nat} {V : List Nat → Option Nat} {il : List (List Nat)} {free : List Nat} {vI vF : Value} {N : List Nat → Option (Nat × Nat)} {Mm : List Nat → Option Nat}
theorem gap_whole {s : Nat} {j : Key} (hs : 1 ≤ s) (hj : keyOk s j) (hn : j.1 ≠ []) : (j.1.length - (pred s j).1.length = s) ↔ j.2 = 0 := by
 obtain ⟨g1, g2⟩ := pred_gap s j hs hn
 obtain ⟨p1, p2⟩ := pred_len s j hs hn
 unfold keyOk at hj
 rw [hj]
 constructor
 · intro e
   have : j.1.length = ((j.1.length - 1) / s + 1) * s := by rw [Nat.add_mul]; omega
   rw [this]; simp
 · intro e
   have := g2 e
   omega
set_option maxRecDepth 100000 in
set_option maxHeartbeats 1000000 in
theorem LowX.iswhole_any (h : LowX F ok w g c B U V il free vI vF N Mm) (hc : c.ok) (j : Key) (b : Nat) (hb : B j = some b) :
   Calls Try.prog 61 #[.pointer (some ⟨g.X, 0, none⟩), .pointer (some ⟨b, 0, none⟩)] w fun e w' => e = .returned (.bool (decide (j.2 = 0))) ∧ ∃ q, w' = w.drewN q := by
 obtain ⟨arr, o0, o1, o2, o3, o4, o5, o6, o7, o8⟩ := h.obj
 obtain ⟨s1, s2⟩ := hc.slots
 obtain ⟨x, hx, S, hS, _⟩ := h.blk hb
 obtain ⟨jn, jok, jlen, _⟩ := h.blks.ne j (by rw [hb]; simp)
 have hgw := gap_whole s1 jok jn
 obtain ⟨ax, cx, ex⟩ := owns_form hS
 subst ex
 generalize hq : j.1.length - (pred c.slots j).1.length = q at hx hgw hS
 have c0 : w.cell? ⟨b, 0, none⟩ = some (.slice ax q cx) := by rw [cell_blk hx]; rfl
 have c1 : w.cell? ⟨g.X, 1, none⟩ = some (.int .i64 c.slots) := by rw [cell_blk o0]; exact o2
 have Hgw := hide hgw
 clear hgw hq hS hx o0 o1 o2 o3 o4 o5 o6 o7 o8
 go_enter Try.func61, Try.ntmps61
 go_wp2
 go_quiet (fail)
 go_wp2
 go_ret
 refine ⟨?_, _, rfl⟩
 have : decide ((q : Int) = (c.slots : Int)) = decide (j.2 = 0) := by
   rw [Bool.eq_iff_iff]
   simp only [decide_eq_true_eq]
   rw [← Hgw.out]
   omega
 first
   | (rw [← this]; rfl)
   | (simp only [← this]; rfl)
theorem tfoot_ints (h : LowX F ok w g c B U V il free vI vF N Mm) : ∀ k cur fr, TFoot N Mm k → w.heap[k]? ≠ some (.cells cur 3 fr) := by
 rintro k cur fr (⟨p, a, hp, rfl⟩ | ⟨p, hp, hm⟩) hh
 · rcases h.tree.kind p a cur _ fr hp hh with e | e <;> exact absurd e (by decide)
 · exact TreeI.mapne hh (h.tree.kids p k hp hm) rfl
set_option maxRecDepth 100000 in
set_option maxHeartbeats 2000000 in
theorem LowX.down_more (h : LowX F ok w g c B U V il free vI vF N Mm) (j : Key) (b n : Nat) (hb : B j = some b) (hU : U j = n + 2) (hn : n ≤ 1000) :
   Calls Try.prog 42 #[.pointer (some ⟨g.X, 0, none⟩), blkV (some b), .int .i64 0] w fun e w' =>
     e = .returned (.tuple #[]) ∧ LowX F ok w' g c B (fun i => if i = j then n + 1 else U i) V il free vI vF N Mm ∧ Moves F w w' := by
 obtain ⟨x, hx, _⟩ := h.blk hb
 rw [hU] at hx
 have u1 : w.cell? ⟨b, 2, none⟩ = some (.int .i64 ((n : Int) + 2)) := by rw [cell_blk hx]; rfl
 have u2 := frozen_blk hx 2
 obtain ⟨hL, hM⟩ := h.setU j b (n + 1) hb
 have ec : ((n + 1 : Nat) : Int) = (n : Int) + 1 := by omega
 rw [ec] at hL hM
 have HL := hide hL
 have HM := hide hM
 have hw1 : IntKind.i64.wrap ((n : Int) + 2 - 1) = (n : Int) + 1 := by rw [wrap_in (by omega) (by omega)]; omega
 have hp : (0 : Int) < (n : Int) + 1 := by omega
 clear hL hM hx hU h
 unfold blkV
 go_enter Try.func42, Try.ntmps42
 go_wp2
 refine bodyPost_ret (v := .tuple #[]) (by simp [results, Try.results42]) rfl ⟨rfl, HL.out, HM.out⟩
set_option maxRecDepth 100000 in
set_option maxHeartbeats 2000000 in
theorem LowX.down_idle (h : LowX F ok w g c B U V il free vI vF N Mm) (hc : c.ok) (j : Key) (b : Nat) (hb : B j = some b) (hU : U j = 1) (hj : j.2 = 0) (hnot : j.1 ∉ il) (hl : il.length ≤ 1000) :
   Calls Try.prog 42 #[.pointer (some ⟨g.X, 0, none⟩), blkV (some b), .int .i64 0] w fun e w' =>
     e = .returned (.tuple #[]) ∧ ∃ vI', LowX (grow F w) ok w' g c B (fun i => if i = j then 0 else U i) V (il ++ [j.1]) free vI' vF N Mm ∧ Moves F w w' := by
 obtain ⟨x, hx, _⟩ := h.blk hb
 rw [hU] at hx
 have u1 : w.cell? ⟨b, 2, none⟩ = some (.int .i64 1) := by rw [cell_blk hx]; rfl
 have u2 := frozen_blk hx 2
 obtain ⟨hL, hM⟩ := h.setU j b 0 hb
 have ec : ((0 : Nat) : Int) = 0 := rfl
 rw [ec] at hL hM
 obtain ⟨x1, hx1, _⟩ := hL.blk hb
 simp only [if_true] at hx1
 have u3 : (w.setCell ⟨b, 2, none⟩ (.int .i64 0)).cell? ⟨b, 2, none⟩ = some (.int .i64 0) := by rw [cell_blk hx1]; rfl
 have hwh := hL.iswhole_any hc j b hb
 rw [hj] at hwh
 have Hwh := hide hwh
 have HL := hide hL
 have HM := hide hM
 clear hwh hL hM hx hx1
 unfold blkV
 go_enter Try.func42, Try.ntmps42
 go_wp2_with fail
 refine Hwh.out.mono ?_
 rintro e w1 ⟨rfl, q, hq⟩
 have hB1 : Below (w.setCell ⟨b, 2, none⟩ (.int .i64 0)).heap.size (w.setCell ⟨b, 2, none⟩ (.int .i64 0)) w1 := by rw [hq]; exact ⟨rfl, rfl, rfl, Nat.le_refl _, fun _ _ => rfl⟩
 have hL1 := HL.out.below hB1
 have hM1 : Moves F w w1 := HM.out.trans (Moves.of_below hB1)
 have hsz1 : w1.heap.size = w.heap.size := by rw [hq]; simp [World.setCell, World.drewN]
 obtain ⟨arr, o0, o1, o2, o3, o4, o5, o6, o7, o8⟩ := hL1.obj
 have hadd := listadd_any g.X 12 b vI (ilB B il) arr _ w1 o0 (by decide) o7 hL1.list (by unfold ilB; simpa using hl)
 unfold ptrV at hadd
 have Hadd := hide hadd
 have HL1 := hide hL1
 have HM1 := hide hM1
 have Ho0 := hide o0
 clear hadd hL1 hM1 hq hB1 HL HM Hwh o0 o1 o2 o3 o4 o5 o6 o7 o8 u3
 go_wp2_with fail
 refine Hadd.out.mono ?_
 rintro e w2 ⟨rfl, v', h1, h2, h3, h4⟩
 have e2 : ilB B il ++ [b] = ilB B (il ++ [j.1]) := by
   unfold ilB
   rw [List.map_append]
   congr 1
   have : (j.1, 0) = j := Prod.ext rfl hj.symm
   simp [this, hb]
 rw [e2] at h2
 obtain ⟨q1, q2⟩ := HL1.out.relist (il ++ [j.1]) v' (fun arr' ha => by rw [Ho0.out] at ha; injection ha with ha; injection ha with ha _ _; rw [← ha]; exact h1) h2 h3 h4 (fun p hp => by
   rcases List.mem_append.1 hp with hp | hp
   · exact h.ilN p hp
   · rw [List.mem_singleton] at hp
     rw [hp, show (j.1, 0) = j from Prod.ext rfl hj.symm, hb]; simp) (by
   rw [List.nodup_append]
   refine ⟨h.ilnd, by simp, fun a ha b' hb' e => ?_⟩
   rw [List.mem_singleton] at hb'
   subst hb' e
   exact hnot ha)
 have Hq1 := hide q1
 have Hq2 := hide q2
 clear q1 q2 h1 h2 h3 h4 e2 Hadd
 go_wp2
 refine bodyPost_ret (v := .tuple #[]) (by simp [results, Try.results42]) rfl ⟨rfl, v', Hq1.out.mono (fun k hk => hk.imp id (fun hle => by omega)), HM1.out.trans (Hq2.out.mono (fun k _ hk => .inl hk))⟩
set_option maxRecDepth 100000 in
set_option maxHeartbeats 2000000 in
theorem LowX.down_free (h : LowX F ok w g c B U V il free vI vF N Mm) (hc : c.ok) (j : Key) (b : Nat) (hb : B j = some b) (hback : ∀ i, B i ≠ none → pred c.slots i ≠ j) (hl : il.length ≤ 1000) (hfl : free.length ≤ 1000) :
   Calls Try.prog 42 #[.pointer (some ⟨g.X, 0, none⟩), blkV (some b), .int .i64 1] w fun e w' =>
     e = .returned (.tuple #[]) ∧ ∃ vI' vF' N', LowX (grow F w) ok w' g c (fun i => if i = j then none else B i) U (fun p => if p = [] ++ j.1 then none else V p) (il.filter (fun p => decide ((p, 0) ≠ j))) (free ++ [b]) vI' vF' N' Mm ∧ Moves F w w' := by
 obtain ⟨jn, jok, jlen, jtok⟩ := h.blks.ne j (by rw [hb]; simp)
 obtain ⟨vc1, vc2⟩ := hc.vocab
 have hrem := h.remove_any j b hb hl
 have Hrem := hide hrem
 clear hrem
 have hsz0 : w.heap.size ≤ w.heap.size := Nat.le_refl _
 unfold blkV at Hrem ⊢
 go_enter Try.func42, Try.ntmps42
 go_wp2_with fail
 -- it is out of the list, of the tree, and back in the pool
 refine Hrem.out.mono ?_
 rintro e w2 ⟨rfl, vI2, hL2, hM2⟩
 clear Hrem
 have hseq : SeqAt ok w2.drew c B U j := (show SeqAt ok w2 c B U j from ⟨hL2.blks, fun e => absurd e jn, fun _ => by rw [hb]; simp⟩).below ((Below.refl _ _).drew)
 have htok := tokens_any ok c hc B U j w2.drew hseq
 rw [hb] at htok
 have Htok := hide htok
 have HL2 := hide hL2
 clear htok hseq hL2
 go_wp2_with fail
 go_region_held3 (fun _ => True) (trivial)
   (first
     | (go_at_call 41; refine Htok.out.mono ?_; rintro e w3 ⟨r, rfl, hr, hb3⟩; replace hb3 : Below w2.heap.size w2 w3 := ((Below.refl _ _).drew).trans hb3; have hL3 := HL2.out.below hb3; have hT : TokT w3 r j.1 := IntsT.of_owns hr; have hdel := treedel_any (TFoot N Mm) Mm j.1 N V [] g.X 9 r w3 hL3.tree.exact hL3.root hT (fun t ht => by have := jtok t ht; omega) (tfoot_ints hL3) (by omega); have Hdel := hide hdel; have HL3 := hide hL3; clear hdel hL3)
     | (go_at_call 63; refine Hdel.out.mono ?_; rintro e w4 ⟨rfl, N', hless⟩))
 obtain ⟨hL4, hM4⟩ := HL3.out.retree (hless.tree.mono (fun k hk => .inl hk)) hless.only hless.out (by rcases hless.less [] with e | ⟨_, _, e⟩; exact e.trans HL3.out.root; exact absurd rfl e) (fun p hp => HL3.out.smap p (by rcases hless.less p with e | ⟨e, _⟩; rw [← e]; exact hp; exact absurd e hp))
 have hM3 : Moves (grow F w) w2 w4 := (Moves.of_below hb3).trans (hM4.mono (fun k _ hk => .inl hk))
 have hL4' := hL4.mono (F' := grow F w) (fun k hk => by
   rcases hk with hk | hk
   · exact hk
   · have a1 := hM2.size
     have a2 := hb3.size
     have a3 := (Nat.le_refl w.heap.size)
     exact .inr (by omega))
 obtain ⟨x4, hx4, _⟩ := hL4'.blk hb
 have hgive := poolgive_any g.PL b vF x4 _ _ free w4 hL4'.pool hfl hx4 (fun hm => hL4'.freeB b hm j hb)
 have Hgive := hide hgive
 obtain ⟨arr4, q0, q1, q2, q3, q4, q5, q6, q7, q8⟩ := hL4'.obj
 have cP : w4.cell? ⟨g.X, 8, none⟩ = some (.pointer (some ⟨g.PL, 0, none⟩)) := by rw [cell_blk q0]; exact q6
 have HL4 := hide hL4'
 have HM3 := hide hM3
 have HM2 := hide hM2
 clear hgive hL4 hL4' hM4 hM3 hM2 hless Hdel HL3 HL2 Htok hx4 q0 q1 q2 q3 q4 q5 q6 q7 q8
 go_wp2_with fail
 refine Hgive.out.mono ?_
 rintro e w5 ⟨rfl, vF', hP5, hO5, hown5⟩
 obtain ⟨hL5, hM5⟩ := HL4.out.regive j b vF' hb hP5 hO5 hown5 (fun p hp => by simpa using (List.mem_filter.1 hp).2) hback
 have HL5 := hide hL5
 have HM5 := hide hM5
 clear hL5 hM5 hP5 hO5 hown5 Hgive
 go_wp2
 refine bodyPost_end (v := .tuple #[]) (by simp [results, Try.results42]) rfl ⟨rfl, vI2, vF', N', ?_, ?_⟩
 · exact HL5.out.mono (fun k hk => by
     rcases hk with hk | hk
     · exact hk
     · have a1 := HM2.out.size
       have a2 := HM3.out.size
       have a3 := (Nat.le_refl w.heap.size)
       exact .inr (by omega))
 · exact (HM2.out.trans (HM3.out)).trans (HM5.out.mono (fun k _ hk => hk))
set_option maxRecDepth 100000 in
set_option maxHeartbeats 2000000 in
theorem LowX.down_tail (h : LowX F ok w g c B U V il free vI vF N Mm) (hc : c.ok) (j : Key) (b : Nat) (hb : B j = some b) (hU : U j = 1) (hj : j.2 ≠ 0) (hback : ∀ i, B i ≠ none → pred c.slots i ≠ j) (hl : il.length ≤ 1000) (hfl : free.length ≤ 1000) :
   Calls Try.prog 42 #[.pointer (some ⟨g.X, 0, none⟩), blkV (some b), .int .i64 0] w fun e w' =>
     e = .returned (.tuple #[]) ∧ ∃ vI' vF' N', LowX (grow F w) ok w' g c (fun i => if i = j then none else B i) (fun i => if i = j then 0 else U i) (fun p => if p = [] ++ j.1 then none else V p) (il.filter (fun p => decide ((p, 0) ≠ j))) (free ++ [b]) vI' vF' N' Mm ∧ Moves F w w' := by
 obtain ⟨jn, jok, jlen, jtok⟩ := h.blks.ne j (by rw [hb]; simp)
 obtain ⟨vc1, vc2⟩ := hc.vocab
 obtain ⟨x, hx, _⟩ := h.blk hb
 rw [hU] at hx
 have u1 : w.cell? ⟨b, 2, none⟩ = some (.int .i64 1) := by rw [cell_blk hx]; rfl
 have u2 := frozen_blk hx 2
 obtain ⟨hL, hM⟩ := h.setU j b 0 hb
 have ec : ((0 : Nat) : Int) = 0 := rfl
 rw [ec] at hL hM
 obtain ⟨x1, hx1, _⟩ := hL.blk hb
 simp only [if_true] at hx1
 have u3 : (w.setCell ⟨b, 2, none⟩ (.int .i64 0)).cell? ⟨b, 2, none⟩ = some (.int .i64 0) := by rw [cell_blk hx1]; rfl
 have hwh := hL.iswhole_any hc j b hb
 rw [decide_eq_false hj] at hwh
 have Hwh := hide hwh
 have HL := hide hL
 have HM := hide hM
 clear hwh hL hM hx hx1
 unfold blkV
 go_enter Try.func42, Try.ntmps42
 go_wp2_with fail
 refine Hwh.out.mono ?_
 rintro e w1 ⟨rfl, q, hq⟩
 have hB1 : Below (w.setCell ⟨b, 2, none⟩ (.int .i64 0)).heap.size (w.setCell ⟨b, 2, none⟩ (.int .i64 0)) w1 := by rw [hq]; exact ⟨rfl, rfl, rfl, Nat.le_refl _, fun _ _ => rfl⟩
 have hL1 := HL.out.below hB1
 have hM1 : Moves F w w1 := HM.out.trans (Moves.of_below hB1)
 have hsz1 : w1.heap.size = w.heap.size := by rw [hq]; simp [World.setCell, World.drewN]
 have hgr : grow F w1 = grow F w := by unfold grow; rw [hsz1]
 have hrem := hL1.remove_any j b hb hl
 unfold blkV at hrem
 have Hrem := hide hrem
 have HM1 := hide hM1
 have Hgr := hide hgr
 clear hrem hL1 hM1 hgr hq hB1 HL HM Hwh u3
 go_wp2_with fail
 -- it is out of the list, of the tree, and back in the pool
 refine Hrem.out.mono ?_
 rintro e w2 ⟨rfl, vI2, hL2, hM2⟩
 clear Hrem
 have hseq : SeqAt ok w2.drew c B (fun i => if i = j then 0 else U i) j := (show SeqAt ok w2 c B (fun i => if i = j then 0 else U i) j from ⟨hL2.blks, fun e => absurd e jn, fun _ => by rw [hb]; simp⟩).below ((Below.refl _ _).drew)
 have htok := tokens_any ok c hc B (fun i => if i = j then 0 else U i) j w2.drew hseq
 rw [hb] at htok
 have Htok := hide htok
 have HL2 := hide hL2
 clear htok hseq hL2
 go_wp2_with fail
 go_region_held3 (fun _ => True) (trivial)
   (first
     | (go_at_call 41; refine Htok.out.mono ?_; rintro e w3 ⟨r, rfl, hr, hb3⟩; replace hb3 : Below w2.heap.size w2 w3 := ((Below.refl _ _).drew).trans hb3; have hL3 := HL2.out.below hb3; have hT : TokT w3 r j.1 := IntsT.of_owns hr; have hdel := treedel_any (TFoot N Mm) Mm j.1 N V [] g.X 9 r w3 hL3.tree.exact hL3.root hT (fun t ht => by have := jtok t ht; omega) (tfoot_ints hL3) (by omega); have Hdel := hide hdel; have HL3 := hide hL3; clear hdel hL3)
     | (go_at_call 63; refine Hdel.out.mono ?_; rintro e w4 ⟨rfl, N', hless⟩))
 obtain ⟨hL4, hM4⟩ := HL3.out.retree (hless.tree.mono (fun k hk => .inl hk)) hless.only hless.out (by rcases hless.less [] with e | ⟨_, _, e⟩; exact e.trans HL3.out.root; exact absurd rfl e) (fun p hp => HL3.out.smap p (by rcases hless.less p with e | ⟨e, _⟩; rw [← e]; exact hp; exact absurd e hp))
 have hM3 : Moves (grow F w1) w2 w4 := (Moves.of_below hb3).trans (hM4.mono (fun k _ hk => .inl hk))
 have hL4' := hL4.mono (F' := grow F w1) (fun k hk => by
   rcases hk with hk | hk
   · exact hk
   · have a1 := hM2.size
     have a2 := hb3.size
     have a3 := (Nat.le_refl w1.heap.size)
     exact .inr (by omega))
 obtain ⟨x4, hx4, _⟩ := hL4'.blk hb
 have hgive := poolgive_any g.PL b vF x4 _ _ free w4 hL4'.pool hfl hx4 (fun hm => hL4'.freeB b hm j hb)
 have Hgive := hide hgive
 obtain ⟨arr4, q0, q1, q2, q3, q4, q5, q6, q7, q8⟩ := hL4'.obj
 have cP : w4.cell? ⟨g.X, 8, none⟩ = some (.pointer (some ⟨g.PL, 0, none⟩)) := by rw [cell_blk q0]; exact q6
 have HL4 := hide hL4'
 have HM3 := hide hM3
 have HM2 := hide hM2
 clear hgive hL4 hL4' hM4 hM3 hM2 hless Hdel HL3 HL2 Htok hx4 q0 q1 q2 q3 q4 q5 q6 q7 q8
 go_wp2_with fail
 refine Hgive.out.mono ?_
 rintro e w5 ⟨rfl, vF', hP5, hO5, hown5⟩
 obtain ⟨hL5, hM5⟩ := HL4.out.regive j b vF' hb hP5 hO5 hown5 (fun p hp => by simpa using (List.mem_filter.1 hp).2) hback
 have HL5 := hide hL5
 have HM5 := hide hM5
 clear hL5 hM5 hP5 hO5 hown5 Hgive
 go_wp2
 refine bodyPost_end (v := .tuple #[]) (by simp [results, Try.results42]) rfl ⟨rfl, vI2, vF', N', ?_, ?_⟩
 · rw [← Hgr.out]
   exact HL5.out.mono (fun k hk => by
     rcases hk with hk | hk
     · exact hk
     · have a1 := HM2.out.size
       have a2 := HM3.out.size
       exact .inr (by omega))
 · exact HM1.out.trans (((HM2.out.trans HM3.out).trans (HM5.out.mono (fun k _ hk => hk))).mono (fun k _ hk => .inl hk))
end
end Go.Proofs.Ytlmflighkkgikaa
