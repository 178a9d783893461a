import Derived.Test.YtlmflighkkgikaaP32

namespace Go.Proofs.Ytlmflighkkgikaa
open Go.RowKit
attribute [local go_sem ↓] Go.wp_at_zero Go.wp_at_succ
def RecI (ok : Nat → Prop) (w : World) (v : Value) (c : Cfg) (T : List Nat) (from' r : Nat) : Prop :=
 (v = .slice none 0 0 ∧ r = 0) ∨ ∃ (b off cap : Nat) (xs : Nat → Value), v = .slice (some ⟨b, off, none⟩) r cap ∧ 0 < r ∧ b < w.heap.size ∧ ∀ t, t < r → w.cell? ⟨b, off + t, none⟩ = some (xs t) ∧ CellI ok w (xs t) c.layers c.width (kOf c (tkN T) (from' + t)) (vOf c (tkN T) (from' + t))
theorem RecI.below {ok : Nat → Prop} {w w' : World} {v : Value} {c : Cfg} {T : List Nat} {f r : Nat} (h : RecI ok w v c T f r) (hb : Below w.heap.size w w') : RecI ok w' v c T f r := by
 rcases h with h | ⟨b, off, cap, xs, e, h0, hl, h1⟩
 · exact .inl h
 · exact .inr ⟨b, off, cap, xs, e, h0, Nat.lt_of_lt_of_le hl hb.size, fun t ht => ⟨(hb.cell (p := ⟨b, off + t, none⟩) hl).trans (h1 t ht).1, (h1 t ht).2.below hb⟩⟩
def putNeed (s : Nat) (B : Key → Option Nat) (T : List Nat) : Nat := nbOf s (T.length - (farOf (fun p => B (p, 0)) T).length)
def putUp (B : Key → Option Nat) (T : List Nat) (il : List (List Nat)) : List (List Nat) := notUp (farOf (fun p => B (p, 0)) T) il
def PutTo (F ok : Nat → Prop) (w : World) (g : Parts) (c : Cfg) (H0 : List Key) (il : List (List Nat)) (B : Key → Option Nat) (free : List Nat) (k0 : Key) (id : Int) (T : List Nat) (tn nL : Nat) (M : Int → Option Value) (e : Ending) (w' : World) : Prop :=
 ((free.length : Int) + (putUp B T il).length < (putNeed c.slots B T : Int) - ownTail (users c.slots (k0 :: H0)) k0 ∧ e = .returned (.int .i64 6) ∧ Below w.heap.size w w') ∨
 ((putNeed c.slots B T : Int) - ownTail (users c.slots (k0 :: H0)) k0 ≤ (free.length : Int) + (putUp B T il).length ∧ e = .returned (.int .i64 0) ∧ Moves (fun k => F k ∨ k = g.SM) w w' ∧
   ∃ B' free', StoreI (grow F w) ok w' g c (endKey c.slots T tn :: H0) ((putUp B T il).drop (evN ((putNeed c.slots B T : Int) - ownTail (users c.slots (k0 :: H0)) k0 - free.length) (putUp B T il))) B' free' ∧
     MapV Try.prog 3 w' g.SM (if M id = none then nL + 1 else nL) (fun y => if y = id then some (blkV (B' (endKey c.slots T tn))) else M y) ∧ ∀ h ∈ H0, h.1 ≠ [] → B' h = B h)
theorem run_append_empty {P : Program} (w : World) (t ty e : TypeId) (i : TypeInfo) (ht : P.underlying t = some (.slice e)) (hi : P.info? e = some i) (a : Option Addr) (n cap : Nat) (hn : n ≤ cap) (ha : a = none → n = 0 ∧ cap = 0) :
   (Builtin.append_ #[t, t] ty #[.slice a n cap, .slice none 0 0]).run P w = .ok (.slice a n cap) w := by
 cases a with
 | none =>
   obtain ⟨rfl, rfl⟩ := ha rfl
   simp [Builtin.append_, run_underlying ht, sizeOf, typeInfo, hi, Builtin.lenOf, Builtin.firstCells, go_sem]
 | some a => simp [Builtin.append_, run_underlying ht, sizeOf, typeInfo, hi, Builtin.lenOf, Builtin.firstCells, hn, go_sem, storeCells]
theorem wpList_append_empty {P : Program} (w : World) {ops : Array Oper} {rest : List Oper} {o : Oper} {a : Act} {Q : Exit → Act → World → Prop} (hg : o.guard = none) (s x : Operand) (t : TypeId) (hop : o.op = .call { callee := .builtin .append, args := #[s, x], argTypes := #[t, t] })
   (e : TypeId) (i : TypeInfo) (ht : P.underlying t = some (.slice e)) (hi : P.info? e = some i) (ad : Option Addr) (n cap : Nat) (hs : a.eval s = .slice ad n cap) (hx : a.eval x = .slice none 0 0) (hn : n ≤ cap) (ha : ad = none → n = 0 ∧ cap = 0)
   (hK : wpList P ops Q rest (a.put o.dst (.slice ad n cap)) w) : wpList P ops Q (o :: rest) a w := by
 refine wpList_plain hg fun K' hK' => ?_
 have hrun := run_append_empty (P := P) w t o.type e i ht hi ad n cap hn ha
 unfold Oper.wp
 simp [execOp, hop, resolve, invoke, builtin, hs, hx, hrun, Result.andThen]
 exact hK' _ _ hK
theorem addr_add (b o j : Nat) : (⟨b, o, none⟩ : Addr).add j = ⟨b, o + j, none⟩ := by unfold Addr.add; split <;> simp_all
theorem toks_append (A C : List Nat) : ((List.range A.length).map fun j => Value.int .i64 (tkI A j)) ++ ((List.range C.length).map fun j => Value.int .i64 (tkI C j)) = (List.range (A ++ C).length).map fun j => Value.int .i64 (tkI (A ++ C) j) := by
 rw [List.length_append, List.range_add, List.map_append, List.map_map]
 congr 1
 · apply List.map_congr_left
   intro j hj
   have hj := List.mem_range.1 hj
   unfold tkI tkN
   rw [List.getD_eq_getElem?_getD, List.getD_eq_getElem?_getD, List.getElem?_append_left hj]
 · apply List.map_congr_left
   intro j hj
   simp only [Function.comp]
   unfold tkI tkN
   rw [List.getD_eq_getElem?_getD, List.getD_eq_getElem?_getD, List.getElem?_append_right (by omega)]
   simp
theorem MapV.putk {P : Program} {k e t : TypeId} {w : World} {b n : Nat} {M : Int → Option Value} (h : MapV P k w b n M) (hk : P.underlying k = some (.int .i64)) (ht : P.underlying t = some (.map k e)) (hn : n < maxLen) (x : Int) (hx : (Lit.int .i64 x).wf = true) (v : Value) :
   ∃ w', (Instr.mapUpdate t (.map (some b)) (.int .i64 x) v).run P w = .ok () w' ∧ MapV P k w' b (if M x = none then n + 1 else n) (fun y => if y = x then some v else M y) ∧ w.grownBy w' (some b) ∧ w'.heap.size = w.heap.size := by
 by_cases hM : M x = none
 · rw [if_pos hM]; exact h.store hk ht hn x hx hM v
 · rw [if_neg hM]; exact h.over hk ht hn x hx hM v
theorem store_x13 {F ok : Nat → Prop} {w : World} {g : Parts} {c : Cfg} {H : List Key} {il : List (List Nat)} {B : Key → Option Nat} {free : List Nat} (h : StoreI F ok w g c H il B free) : ∃ arr : Array Value, w.heap[g.X]? = some (.cells arr 73 (0, 0)) ∧ arr[13]? = some (.map (some g.SM)) := by
 obtain ⟨vI, vF, N, Mm, hl⟩ := h.low
 obtain ⟨arr, o0, o1, o2, o3, o4, o5, o6, o7, o8⟩ := hl.obj
 exact ⟨arr, o0, o8⟩
theorem StoreI.other_map {F ok : Nat → Prop} {w w' : World} {g : Parts} {c : Cfg} {H : List Key} {il : List (List Nat)} {B : Key → Option Nat} {free : List Nat} {n : Nat} {M : Int → Option Value} (h : StoreI F ok w g c H il B free) (hm : MapV Try.prog 3 w g.SM n M) (hg : w.grownBy w' (some g.SM)) (hF : ∀ k, F k → k ≠ g.SM) : StoreI F ok w' g c H il B free := by
 obtain ⟨vI, vF, N, Mm, hl⟩ := h.low
 obtain ⟨es, cl, ho⟩ := hm.obj
 have far : ∀ {k : Nat} {o : Obj}, w.heap[k]? = some o → k ≠ g.SM → w'.heap[k]? = w.heap[k]? := fun hk hne => hg.block _ (lt_blk hk) (fun e => hne (by injection e))
 have nc : ∀ {k : Nat} {a : Array Value} {e : TypeId} {fr : Nat × Nat}, w.heap[k]? = some (.cells a e fr) → k ≠ g.SM := fun hk e => by rw [e, ho] at hk; cases hk
 have kk : ∀ e : TypeId, KeepT e w w' := fun e k cur fr hk => by rw [far hk (nc hk)]; exact hk
 obtain ⟨arr, o0, o⟩ := hl.obj
 refine ⟨⟨vI, vF, N, Mm, ⟨⟨arr, kk _ _ _ _ o0, o⟩, hl.model.keep (kk _) (kk _) (kk _) (kk _), hl.pool.keep (far hl.pool.obj (nc hl.pool.obj)) (fun b hb => ?_) (fun b hb => far (hl.pool.blank b hb) (nc (hl.pool.blank b hb))), hl.tree.keepT (fun p a hp => ?_) (fun p mb hp hmb => ?_), hl.root, hl.smap, hl.list.keep (fun b hb => ?_), hl.ilN, hl.ilnd, hl.blks.keep (fun k b hk => ?_) (kk _) (kk _) (kk _), hl.freeB, hl.apart, hl.fX, hl.fP, hl.fI, hl.fF, hl.fB, hl.fE, fun k b x y z s hk hh hs => ?_⟩⟩, h.pure, h.dom, h.count, h.many⟩
 · obtain ⟨cur, hc⟩ := hl.pool.row.kind hb
   exact far hc (nc hc)
 · obtain ⟨a', ty, n0, _⟩ := hl.tree.node p a hp
   exact far n0 (nc n0)
 · obtain ⟨es', cl', ho'⟩ := (hl.tree.kids p mb hp hmb).obj
   exact far ho' (hF _ (hl.tree.mfoot p mb hp hmb))
 · obtain ⟨cur, hc⟩ := hl.list.kind hb
   exact far hc (nc hc)
 · obtain ⟨x, hx, _⟩ := hl.blks.at' k b hk
   exact far hx (nc hx)
 · obtain ⟨x', hx', _⟩ := hl.blks.at' k b hk
   rw [far hx' (nc hx')] at hh
   exact hl.fS k b x y z s hk hh hs
set_option maxRecDepth 100000 in
set_option maxHeartbeats 4000000 in
theorem put_any (F ok : Nat → Prop) (g : Parts) (c : Cfg) (hc : c.ok) (H0 : List Key) (il : List (List Nat)) (B : Key → Option Nat) (free : List Nat) (k0 : Key) (id : Int) (more : List Nat) (vm vr : Value) (r tn nL : Nat) (M : Int → Option Value) (w : World)
   (h : StoreI F ok w g c (k0 :: H0) il B free) (hmap : MapV Try.prog 3 w g.SM nL M) (hM : (M id).getD (.pointer none) = blkV (B k0)) (hid : -9223372036854775808 ≤ id ∧ id ≤ 9223372036854775807) (hnL : nL ≤ 100) (hmore : more ≠ []) (hlen : k0.1.length + more.length ≤ 40) (htok : ∀ t ∈ more, t < c.vocab)
   (hvm : Ints w vm more.length (tkI more)) (hvr : RecI ok w vr c (k0.1 ++ more) k0.1.length r) (hr : r ≤ 100) (hSM : ¬ F g.SM ∧ g.SM < w.heap.size) (htn : tn ≠ 0 ∧ ∀ h ∈ H0, h.2 ≠ tn) (hH0 : H0.length ≤ 90) (hok : ∀ b, w.heap.size ≤ b → ok b) :
   Calls Try.prog 31 #[.pointer (some ⟨g.X, 0, none⟩), .int .i64 id, vm, vr] w fun e w' => PutTo F ok w g c H0 il B free k0 id (k0.1 ++ more) tn nL M e w' := by
 obtain ⟨i0, hi, hz0, hz1, hz2⟩ := info_parts Try.info_int
 obtain ⟨i1, hi1, hy0, hy1, hy2⟩ := info_parts Try.info_cell
 obtain ⟨s1, s2⟩ := hc.slots
 obtain ⟨v1, v2⟩ := hc.vocab
 obtain ⟨hil, hfree⟩ := h.ilen hc
 obtain ⟨T, eT⟩ : ∃ T, T = k0.1 ++ more := ⟨_, rfl⟩
 have hTl : T.length = k0.1.length + more.length := by rw [eT]; simp
 have hm0 : 0 < more.length := List.length_pos_iff.2 hmore
 have hk0 := h.pure.key k0 (by simp)
 have hTtok : ∀ t ∈ T, t < c.vocab := fun t ht => by
   rw [eT] at ht
   rcases List.mem_append.1 ht with ht | ht
   · exact hk0.2.2 t ht
   · exact htok t ht
 have hkT : k0.1 <+: T := by rw [eT]; exact List.prefix_append _ _
 obtain ⟨far, efar⟩ : ∃ far, far = farOf (fun p => B (p, 0)) T := ⟨_, rfl⟩
 obtain ⟨f1, f2, f3, f4, f5, f6⟩ := far_facts h.pure h.dom T
 simp only [← efar] at f1 f2 f3 f4 f5 f6
 obtain ⟨need, eneed⟩ : ∃ need, need = putNeed c.slots B T := ⟨_, rfl⟩
 obtain ⟨up, eup⟩ : ∃ up, up = putUp B T il := ⟨_, rfl⟩
 obtain ⟨ow, eow⟩ : ∃ ow, ow = ownTail (users c.slots (k0 :: H0)) k0 := ⟨_, rfl⟩
 have eneed' : need = nbOf c.slots (T.length - far.length) := by rw [eneed, efar]; rfl
 have eup' : up = notUp far il := by rw [eup, efar]; rfl
 have how : ow ≤ 1 := by rw [eow]; unfold ownTail; split <;> omega
 have hneedb : need ≤ 40 := by rw [eneed']; exact Nat.le_trans (nbOf_le s1) (by omega)
 have hidle := idleN_up s1 h.pure (far, 0) f5
 have hupl : up.length ≤ il.length := by rw [eup']; unfold notUp; exact List.length_filter_le _ _
 simp only [] at hidle
 rw [← eup'] at hidle
 obtain ⟨vI, vF, N, Mm, hlow⟩ := h.low
 obtain ⟨arr, o0, o1, o2, o3, o4, o5, o6, o7, o8⟩ := hlow.obj
 have c13 : w.cell? ⟨g.X, 13, none⟩ = some (.map (some g.SM)) := by rw [cell_blk o0]; exact o8
 have hlook := hmap.look1 (t := 71) Try.underlying3 Try.underlying71 (Try.zero_ptr w) id (int_wf id hid.1 hid.2)
 rw [hM] at hlook
 have hXl := lt_blk o0
 obtain ⟨am, cm, rfl, hm1, hm2, hm3⟩ := hvm
 obtain ⟨bm, om, rfl, hbm, hcm⟩ := hm3 hm0
 unfold maxLen at hm2
 have hkk : SeqAt ok w c B (users c.slots (k0 :: H0)) k0 := h.seqAt k0 (fun e => .inl ((heldBy_cons _ _ _ _).2 (.inl (on_self _ _ e))))
 have htoks := tokens_any ok c hc B _ k0 w hkk
 obtain ⟨vk, hvk⟩ : ∃ vk, vk = blkV (B k0) := ⟨_, rfl⟩
 rw [← hvk] at hlook htoks
 have Htoks := hide htoks
 have Hcm := hide hcm
 have Hh := hide h
 have Hlow := hide hlow
 have Hvk := hide hvk
 have HeT := hide eT
 have Hmap := hide hmap
 have Hvr := hide hvr
 have Hok := hide hok
 have hnz : ((more.length : Int) == 0) = false := by rw [beq_eq_false_iff_ne]; omega
 have hnz2 : ¬ ((more.length : Int) = 0) := by omega
 have Hefar := hide efar
 have Heneed := hide eneed
 have Heup := hide eup
 have Heow := hide eow
 have Heneed' := hide eneed'
 have Heup' := hide eup'
 have Hidle := hide hidle
 have Hf2 := hide f2
 have Hf5 := hide f5
 have Hf6 := hide f6
 have HTl := hide hTl
 have hTl40 : T.length ≤ 40 := by omega
 clear efar eneed eup eow eneed' eup' hidle f1 f2 f5 f6 hTl eT
 clear htoks hcm h hlow hvk hmap hvr hok hm3 o0 o1 o2 o3 o4 o5 o6 o7 o8 hkk hM
 go_enter Try.func31, Try.ntmps31
 go_wp2_with (first
   | (go_at_call 41; refine Htoks.out.mono ?_; rintro e w1 ⟨r1, rfl, hr1, hb1⟩; obtain ⟨a1, cc1, e1⟩ := owns_form hr1; subst e1)
   | (at_builtin; refine wpList_append_own _ rfl _ _ 24 rfl w.heap.size 3 i0 (.int .i64 0) 1 8 Try.underlying24 hi hz0 hz1 hz2 rfl (by decide) (.slice a1 k0.1.length cc1) k0.1.length _ rfl hr1 ⟨bm, om, none⟩ more.length cm ((List.range more.length).map fun j => .int .i64 (tkI more j)) rfl (by simp) (by
       intro j u hj
       have hlt : j < more.length := by have := (List.getElem?_eq_some_iff.1 hj).1; simpa using this
       rw [addr_add, hb1.cell (p := ⟨bm, om + j, none⟩) hbm, Hcm.out j hlt]
       simpa [hlt] using hj) (ints_one _ _) (by unfold maxLen; omega) (by omega) hb1.size ?_; intro v2 w2 hown2 hgrow2 _)
   | fail)
 have hB2 : Below w.heap.size w w2 := hb1.grown hgrow2 hb1.size (fun x hx => (hr1.lt x hx).1)
 rw [toks_append, ← HeT.out] at hown2
 rw [← HTl.out] at hown2
 obtain ⟨a2, cc2, e2⟩ := owns_form hown2
 subst e2
 have hT2 : TokT w2 (.slice a2 T.length cc2) T := IntsT.of_owns hown2
 have hc2 : T.length ≤ cc2 ∧ cc2 ≤ maxLen := by
   obtain ⟨_, _, e, q1, q2, _⟩ := hT2
   injection e with _ _ e
   subst e
   exact ⟨q1, q2⟩
 unfold maxLen at hc2
 obtain ⟨hc21, hc22⟩ := hc2
 have hL2 := Hlow.out.below hB2
 have hfar := treefar_any F N Mm _ g.X 9 T _ w2 hL2.tree hL2.root hT2 (fun t ht => by have := hTtok t ht; omega)
 rw [← Hefar.out] at hfar
 have Hfar := hide hfar
 clear hfar hr1 hgrow2 hown2 Htoks hb1 hL2
 refine Hfar.out.mono ?_
 rintro e w3 ⟨rfl, q3, hw3⟩
 have hB3 : Below w.heap.size w w3 := by rw [hw3]; exact ⟨hB2.os, hB2.tape, hB2.output, hB2.size, hB2.block⟩
 have hT3 : TokT w3 (.slice a2 T.length cc2) T := by rw [hw3]; exact hT2
 clear hw3 hT2 hB2 Hfar
 have hL3 := Hlow.out.below hB3
 have hsk3 : SeqAt ok w3 c B (users c.slots (k0 :: H0)) k0 := (Hh.out.below hB3).seqAt k0 (fun e => .inl ((heldBy_cons _ _ _ _).2 (.inl (on_self _ _ e))))
 have hsf3 : SeqAt ok w3 c B (users c.slots (k0 :: H0)) (far, 0) := (Hh.out.below hB3).seqAt (far, 0) (fun e => by
   rcases Hf5.out with q | q
   · injection q with q; exact absurd q e
   · exact q)
 have hanew := hL3.anew_any hc k0 (far, 0) T.length hsk3 hsf3 f3 (by omega) (fun x => by have := users_le c.slots (k0 :: H0) x; simp at this; omega)
 rw [← Hvk.out] at hanew
 simp only [] at hanew
 rw [← Heneed'.out, ← Heow.out] at hanew
 obtain ⟨vf, hvf⟩ : ∃ vf, vf = blkV (B (far, 0)) := ⟨_, rfl⟩
 rw [← hvf] at hanew ⊢
 have Hvf := hide hvf
 have Hanew := hide hanew
 clear hanew hL3 hsk3 hsf3 hvf
 go_wp2_with fail
 refine Hanew.out.mono ?_
 rintro e w4 ⟨rfl, hb4⟩
 have hB4 := hB3.trans (hb4.mono hB3.size)
 have hT4 := hT3.keep (KeepT.of_below hb4)
 clear hT3 Hanew hB3 hb4
 have hL4 := Hlow.out.below hB4
 obtain ⟨arr4, o0, o1, o2, o3, o4, o5, o6, o7, o8⟩ := hL4.obj
 have c8 : w4.cell? ⟨g.X, 8, none⟩ = some (.pointer (some ⟨g.PL, 0, none⟩)) := by rw [cell_blk o0]; exact o6
 have c12 : w4.drew.cell? ⟨g.X, 12, none⟩ = some vI := by show w4.cell? _ = _; rw [cell_blk o0]; exact o7
 have hdr : Below w4.heap.size w4 w4.drew := (Below.refl _ _).drew
 have hpf := poolfree_any g.PL vF free w4.drew (hL4.below hdr).pool
 have hli := listlen_any g.X 12 vI (ilB B il) w4.drew c12 (hL4.below hdr).list
 rw [show (ilB B il).length = il.length by unfold ilB; simp] at hli
 have hsf4 : SeqAt ok w4.drew c B (users c.slots (k0 :: H0)) (far, 0) := ((Hh.out.below hB4).below hdr).seqAt (far, 0) (fun e => by
   rcases Hf5.out with q | q
   · injection q with q; exact absurd q e
   · exact q)
 have hix := idle_any ok c hc B _ (far, 0) w4.drew hsf4 (fun x => by have := users_le c.slots (k0 :: H0) x; simp at this; omega)
 rw [← Hvf.out] at hix
 have hid1 := Hidle.out
 obtain ⟨ni, hni⟩ : ∃ ni, ni = idleN c.slots (users c.slots (k0 :: H0)) (far, 0) := ⟨_, rfl⟩
 rw [← hni] at hid1 hix
 have Hpf := hide hpf
 have Hli := hide hli
 have Hix := hide hix
 have Hid1 := hide hid1
 have hnib : ni ≤ 40 := by omega
 have hwr1 : IntKind.i64.wrap ((free.length : Int) + il.length) = (free.length : Int) + il.length := wrap_in (by omega) (by omega)
 have hwr2 : IntKind.i64.wrap ((free.length : Int) + il.length - ni) = (free.length : Int) + il.length - ni := wrap_in (by omega) (by omega)
 clear hpf hli hix hid1 hni hsf4 hL4 o0 o1 o2 o3 o4 o5 o6 o7 o8 hdr c12
 go_wp2_with fail
 go_region_held3 (fun w' => w'.cell? ⟨g.X, 8, none⟩ = some (.pointer (some ⟨g.PL, 0, none⟩))) (go_keep)
   (first
     | (go_at_call 37; refine Calls_use Hpf.out ?_)
     | (go_at_call 38; refine Calls_use Hli.out ?_)
     | (go_at_call 51; refine Calls_use Hix.out ?_))
 have hB5 : Below w.heap.size w w4.drew := hB4.drew
 have hT5 : TokT w4.drew (.slice a2 T.length cc2) T := hT4
 generalize w4.drew = w5 at hB5 hT5 Hpf Hli Hix ⊢
 clear hT4 hB4 c8 Hli Hix
 by_cases hfull : (free.length : Int) + il.length - ni < (need : Int) - ow
 · go_wp2
   go_ret
   left
   rw [← HeT.out, ← Heup.out, ← Heneed.out, ← Heow.out]
   refine ⟨?_, rfl, hB5⟩
   have := Hid1.out
   omega
 · have hskc := ((Hh.out.below hB5).seqAt k0 (fun e => .inl ((heldBy_cons _ _ _ _).2 (.inl (on_self _ _ e)))))
   have hcel := cells_any ok c hc B _ k0 w5 hskc
   rw [← Hvk.out] at hcel
   have Hcel := hide hcel
   clear hcel hskc
   have hroomI : (need : Int) - ow ≤ (free.length : Int) + up.length := by have := Hid1.out; omega
   go_wp2_with fail
   refine Hcel.out.mono ?_
   rintro e w6 ⟨rc, rfl, hC6, hb6⟩
   have hB6 := hB5.trans (hb6.mono hB5.size)
   have hT6 := hT5.keep (KeepT.of_below hb6)
   replace hC6 := hC6.congr (T' := T) (fun j hj => by rw [HeT.out]; unfold tkN; rw [List.getD_eq_getElem?_getD, List.getD_eq_getElem?_getD, List.getElem?_append_left hj])
   obtain ⟨a6, cc6, e6⟩ := hC6.form
   subst e6
   clear hT5 Hcel
   have hsz6 := hB6.size
   rcases Hvr.out with ⟨rfl, rfl⟩ | ⟨br, offr, capr, xr, rfl, hr0, hbr, hxr⟩
   · have hemp : a6 = none → k0.1.length = 0 ∧ cc6 = 0 := fun e => by
       obtain ⟨xs, ⟨_, ⟨q1, q2⟩ | ⟨g', cap', cur, q1, _⟩⟩, _⟩ := hC6
       · injection q1 with _ _ q1; exact ⟨q2, q1⟩
       · rw [e] at q1; cases q1
     have Hemp := hide hemp
     have hcap6 := hC6.cap.1
     clear hemp
     have hC7 : CellsI 0 ok w6 (.slice a6 k0.1.length cc6) c T k0.1.length := hC6.base (Nat.zero_le _)
     obtain ⟨mk, hmk⟩ : ∃ mk, mk = k0.1.length := ⟨_, rfl⟩
     have hmkb : mk ≤ 200 := by omega
     have hB7 := hB6
     have hT7 := hT6
     rw [← hmk] at hC7
     go_wp2_with (at_builtin; refine wpList_append_empty _ rfl _ _ 78 rfl 105 i1 Try.underlying78 hi1 a6 k0.1.length cc6 rfl rfl hcap6 Hemp.out ?_)
     rw [← hmk]
     clear hB6 hT6 hC6 Hemp hcap6 hmk
     generalize w6 = w7 at *
     generalize a6 = ak at *
     generalize cc6 = cck at *
     -- what is found is taken up; idle blocks are freed; what was the sequence's is left; the tokens are laid
     have hS7 := Hh.out.below hB7
     have huse := use_any F ok g c hc (k0 :: H0) il B free (far, 0) w7 hS7 Hf5.out (by simp; omega)
     rw [← Hvf.out] at huse
     simp only [] at huse
     rw [← Heup'.out] at huse
     have Huse := hide huse
     have HT7 := hide hT7
     have HC7 := hide hC7
     have HB7 := hide hB7
     have hsz7 := hB7.size
     clear huse hS7 hT7 hC7 hB7
     refine Huse.out.mono ?_
     rintro e w8 ⟨rfl, hS8, hM8⟩
     clear Huse
     have hsz8 := hM8.size
     obtain ⟨vI8, vF8, N8, Mm8, hL8⟩ := hS8.low
     obtain ⟨arr8, o0, o1, o2, o3, o4, o5, o6, o7, o8⟩ := hL8.obj
     have c8 : w8.cell? ⟨g.X, 8, none⟩ = some (.pointer (some ⟨g.PL, 0, none⟩)) := by rw [cell_blk o0]; exact o6
     have hpf := poolfree_any g.PL vF8 free w8 hL8.pool
     have hev := evict_any (grow F w7) ok g c hc ((far, 0) :: k0 :: H0) up B free ((need : Int) - ow - free.length) w8 hS8
     obtain ⟨ev, eev⟩ : ∃ ev, ev = evN ((need : Int) - ow - free.length) up := ⟨_, rfl⟩
     rw [← eev] at hev
     have Hpf8 := hide hpf
     have Hev := hide hev
     have Heev := hide eev
     have HS8 := hide hS8
     have hwr3 : IntKind.i64.wrap ((need : Int) - ow - free.length) = (need : Int) - ow - free.length := wrap_in (by omega) (by omega)
     clear hpf hev eev hS8 hL8 o0 o1 o2 o3 o4 o5 o6 o7 o8 Hpf
     go_wp2_with fail
     refine Calls_use Hpf8.out ?_
     go_wp2_with fail
     refine Hev.out.mono ?_
     rintro e w9 ⟨rfl, B1, free1, hS9, hM9, hsub9⟩
     clear Hev Hpf8
     have hsz9 := hM9.size
     have hperm : ((far, 0) :: k0 :: H0).Perm (k0 :: (far, 0) :: H0) := List.Perm.swap _ _ _
     have hS9' := hS9.perm hc hperm
     have hlv := leave_any _ ok g c hc ((far, 0) :: H0) _ B1 free1 k0 w9 hS9'
     have hB1k : B1 k0 = B k0 := by
       by_cases e : k0.1 = []
       · rw [hS9.nil e, Hh.out.nil e]
       · exact hsub9 k0 (hS9'.head e)
     have hB1f : B1 (far, 0) = B (far, 0) := by
       by_cases e : far = []
       · rw [hS9.nil e, Hh.out.nil e]
       · exact hsub9 _ (hS9.head e)
     have hcov : ∀ x, on c.slots k0 x → x.2 = 0 → on c.slots (far, 0) x := fun x hx hx2 => far_covers Hh.out.pure T far hkT Hf2.out Hf6.out x hx hx2
     have hleft : leftOf c.slots ((far, 0) :: H0) k0 = [] := leftOf_covered s1 hk0.1 (far, 0) hcov
     have hnu := nUsed_covered (H0 := H0) s1 hk0.1 (fun x hx => Hh.out.pure.ok x (List.mem_cons_of_mem _ hx)) far (by unfold keyOk; simp [f4]) hcov (fun e => by have := hk0.1; unfold keyOk at this; exact this.2 (by rw [e]; simp))
     rw [← Heow.out] at hnu
     rw [hB1k, ← Hvk.out] at hlv
     have Hlv := hide hlv
     have Hleft := hide hleft
     have Hnu := hide hnu
     have HS9 := hide hS9
     have Hsub9 := hide hsub9
     have HB1f := hide hB1f
     clear hlv hleft hnu hS9 hS9' hB1k hB1f hcov hsub9 hperm
     go_wp2_with fail
     refine Hlv.out.mono ?_
     rintro e w10 ⟨rfl, B2, free2, hS10, hM10, hsub10⟩
     clear Hlv
     have hsz10 := hM10.size
     rw [Hleft.out, List.append_nil] at hS10
     have hcnt : need ≤ free2.length := by
       have a1 := HS8.out.count
       have a2 := HS9.out.count
       have a3 := hS10.count
       have a4 := Hnu.out
       have a5 := nUsed_perm c.slots ((far, 0) :: k0 :: H0) (k0 :: (far, 0) :: H0) s1 HS8.out.pure.ok (fun x => (List.Perm.swap k0 (far, 0) H0).mem_iff)
       have a6 := Heev.out
       unfold evN at a6
       simp only [List.length_drop] at a2 a3
       omega
     have hG : ∀ k, grow (grow (grow F w7) w8) w9 k → grow F w k := fun k hk => by
       rcases hk with ((hk | hk) | hk) | hk
       · exact .inl hk
       · exact .inr (by omega)
       · exact .inr (by omega)
       · exact .inr (by omega)
     have hS10' := hS10.mono hG
     have hMv : Moves (grow F w) w10 w10 := Moves.refl _ _
     have hkp : ∀ e, ¬ mutT e → KeepT e w7 w10 := fun e he => ((hM8.kept e he).trans (hM9.kept e he)).trans (hM10.kept e he)
     have hB2f : B2 (far, 0) = B (far, 0) := by
       by_cases e : far = []
       · rw [hS10.nil e, Hh.out.nil e]
       · rw [hsub10 _ (hS10.head e)]; exact HB1f.out
     have hilsub : ∀ p ∈ up.drop ev, p ∈ il := fun p hp => by
       have := List.mem_of_mem_drop hp
       rw [Heup'.out] at this
       exact ((mem_notUp _ _ _).1 this).1
     have hlay := lay_any (grow F w) ok g c hc H0 (up.drop ev) B2 free2 T (.slice a2 T.length cc2) (.slice ak mk cck) mk far.length tn w10.drew (by rw [← Hf2.out]; exact hS10'.below ((Below.refl _ _).drew)) (by exact HT7.out.keep (hkp _ (by unfold mutT; decide))) (by exact HC7.out.keepT (hkp _ (by unfold mutT; decide)) (hkp _ (by unfold mutT; decide)) (hkp _ (by unfold mutT; decide))) (by omega) hTtok hTl40 (fun x hx => Hok.out x (by have : w10.heap.size ≤ x := hx; omega)) ⟨fun hg => hg.elim hSM.1 (fun hle => by have := hSM.2; omega), by have := hSM.2; show g.SM < w10.heap.size; omega⟩ f4 f3 htn.1 (by rw [← Heneed'.out]; exact hcnt) (fun e he1 he2 _ hl => Hf6.out e he1 he2 (by
         rcases hl with hl | ⟨hl1, hl2⟩
         · exact .inl ((heldBy_cons _ _ _ _).2 (.inr hl))
         · exact .inr ⟨hl1, hilsub _ hl2⟩)) (fun _ hl => by
         rcases hl with ⟨x, hx, _, e | ⟨e, _⟩⟩ | ⟨e, _⟩
         · exact htn.2 x hx (by rw [← e])
         · exact htn.1 e
         · exact htn.1 e)
     rw [← Hf2.out, hB2f, ← Hvf.out] at hlay
     have hSM10 : w10.heap[g.SM]? = w.heap[g.SM]? := by
       have n7 : ¬ F g.SM := hSM.1
       have hlt := hSM.2
       have b7 := HB7.out.block g.SM hlt
       have b8 := hM8.only.block g.SM (by omega) n7
       have b9 := hM9.only.block g.SM (by omega) (fun hg => hg.elim n7 (fun hle => by omega))
       have b10 := hM10.only.block g.SM (by omega) (fun hg => hg.elim (fun hg => hg.elim n7 (fun hle => by omega)) (fun hle => by omega))
       exact b10.trans (b9.trans (b8.trans b7))
     have hMall : Moves F w w10 := by
       refine (Moves.of_below HB7.out).trans ((hM8.mono (fun k _ hk => .inl hk)).trans ?_)
       refine (hM9.mono (fun k _ hk => hk.elim (fun h => .inl (.inl h)) (fun h => .inr h))).trans (hM10.mono (fun k _ hk => ?_))
       rcases hk with (hk | hk) | hk
       · exact .inl (.inl (.inl hk))
       · exact .inl (.inr hk)
       · exact .inr hk
     obtain ⟨vI10, vF10, N10, Mm10, hL10⟩ := hS10.low
     obtain ⟨arr10, p0, p1, p2, p3, p4, p5, p6, p7, p8⟩ := hL10.obj
     have x13 : w10.cell? ⟨g.X, 13, none⟩ = some (.map (some g.SM)) := by rw [cell_blk p0]; exact p8
     have hX10 := lt_blk p0
     have Hlay := hide hlay
     have HSM10 := hide hSM10
     have HMall := hide hMall
     have HS10 := hide hS10
     have Hsub10 := hide hsub10
     clear hlay hSM10 hMall hS10 hS10' hsub10 hL10 p0 p1 p2 p3 p4 p5 p6 p7 p8 hG hkp hB2f hilsub hMv hM8 hM9 hM10 hcnt
     obtain ⟨ek, hek⟩ : ∃ ek, ek = endKey c.slots T tn := ⟨_, rfl⟩
     rw [← hek] at Hlay
     have Hek := hide hek
     clear hek
     go_wp2_with fail
     go_region_held3 (fun w' => w'.cell? ⟨g.X, 13, none⟩ = some (.map (some g.SM)))
       (first | (exact z13b) | (exact z13) | go_keep)
       (first | (go_at_call 53; refine Hlay.out.mono ?_; rintro e w11 ⟨B3, free3, rfl, hS11, hM11, hsub11⟩; have hSM11 : w11.heap[g.SM]? = w.heap[g.SM]? := ((hM11.only.block g.SM (by show g.SM < w10.heap.size; have := hSM.2; omega) (fun hg => hg.elim hSM.1 (fun hle => by have := hSM.2; omega))).trans HSM10.out); have hmap11 := Hmap.out.keep hSM11; obtain ⟨w12, hup, hmv, hg12, hs12⟩ := hmap11.putk Try.underlying3 (t := 71) Try.underlying71 (by unfold maxLen; omega) id (int_wf id hid.1 hid.2) (blkV (B3 ek)); have hobj11 := store_x13 hS11; obtain ⟨arr11, ax0, ax8⟩ := hobj11; have z13 : w11.cell? ⟨g.X, 13, none⟩ = some (.map (some g.SM)) := (by rw [cell_blk ax0]; exact ax8); have hXS : g.X ≠ g.SM := (fun e => by obtain ⟨es, cl, ho⟩ := hmap11.obj; rw [← e, ax0] at ho; cases ho); have z13b : w12.cell? ⟨g.X, 13, none⟩ = some (.map (some g.SM)) := hg12.cell z13 (fun e => hXS (by injection e))))
     go_wp2
     go_ret
     right
     have hTend : k0.1 ++ more = T := HeT.out.symm
     rw [hTend, ← Heup.out, ← Heneed.out, ← Heow.out, ← Heev.out, ← Hek.out]
     have hsz11 := hM11.size
     have hnS : ∀ k, grow (grow F w) w10.drew k → k ≠ g.SM := fun k hk e => by
       rw [e] at hk
       rcases hk with (hk | hk) | hk
       · exact hSM.1 hk
       · have := hSM.2; omega
       · have h1 : w10.heap.size ≤ g.SM := hk
         have := hSM.2; omega
     refine ⟨hroomI, rfl, ?_, B3, free3, ?_, hmv, fun h hh hne => ?_⟩
     · have m1 : Moves F w w11 := HMall.out.trans (show Moves (grow F w) w10 w11 from ⟨⟨hM11.only.os, hM11.only.tape, hM11.only.output, hM11.only.size, hM11.only.block⟩, hM11.kept⟩)
       refine ⟨(m1.only.mono (fun k _ hk => .inl hk)).grown hg12 (fun x hx _ => .inr (by injection hx with hx; exact hx.symm)), fun e he => (m1.kept e he).trans (fun x cur fr hx => ?_)⟩
       rw [hg12.block x (lt_blk hx) (fun e' => by
         injection e' with e'
         obtain ⟨es, cl, ho⟩ := hmap11.obj
         rw [← e', hx] at ho
         cases ho)]
       exact hx
     · refine (hS11.other_map hmap11 hg12 hnS).mono (fun k hk => ?_)
       rcases hk with hk | hk
       · exact hk
       · have h1 : w10.heap.size ≤ k := hk
         exact .inr (by omega)
     · have h2 : B2 h ≠ none := HS10.out.mem (by simp [hh]) hne
       rw [hsub11 h h2, Hsub10.out h h2]
       refine Hsub9.out h ?_
       rw [← Hsub10.out h h2]
       exact h2
   · obtain ⟨xs, hown6, hxs6⟩ := hC6
     obtain ⟨mk, hmk⟩ : ∃ mk, mk = k0.1.length + r := ⟨_, rfl⟩
     have hmkb : mk ≤ 200 := by omega
     have Hxr := hide hxr
     have hnews : ∀ (j : Nat) (u : Value), ((List.range r).map xr)[j]? = some u → w6.cell? ((⟨br, offr, none⟩ : Addr).add j) = some u := fun j u hj => by
       have hlt : j < r := by have := (List.getElem?_eq_some_iff.1 hj).1; simpa using this
       rw [addr_add, hB6.cell (p := ⟨br, offr + j, none⟩) hbr, (hxr j hlt).1]
       simpa [hlt] using hj
     have hone : ∀ u ∈ (List.range r).map xr, u.oneCell' = true := fun u hu => by
       obtain ⟨j, hj, rfl⟩ := List.mem_map.1 hu
       obtain ⟨_, _, _, _, e, _⟩ := (hxr j (List.mem_range.1 hj)).2
       rw [e]; rfl
     have Hnews := hide hnews
     have Hone := hide hone
     clear hnews hone hxr
     go_wp2_with (at_builtin; refine wpList_append_own _ rfl _ _ 78 rfl w5.heap.size 105 i1 (.slice none 0 0) 1 24 Try.underlying78 hi1 hy0 hy1 hy2 rfl (by decide) (.slice a6 k0.1.length cc6) k0.1.length _ rfl hown6 ⟨br, offr, none⟩ r capr ((List.range r).map xr) rfl (by simp) Hnews.out Hone.out (by unfold maxLen; omega) (by omega) hb6.size ?_; intro v7 w7 hown7 hgrow7 _)
     have hb7 : Below w5.heap.size w5 w7 := hb6.grown hgrow7 hb6.size (fun x hx => (hown6.lt x hx).1)
     have hB7 := hB5.trans (hb7.mono hB5.size)
     have hk67 : ∀ e : TypeId, e ≠ 105 → KeepT e w6 w7 := fun e he => KeepT.of_grown hown6 hgrow7 he
     have hT7 := hT6.keep (hk67 _ (by decide))
     have hC7 : CellsI 0 ok w7 v7 c T mk := by
       refine ⟨fun t => if t < k0.1.length then xs t else xr (t - k0.1.length), ?_, fun t ht => ?_⟩
       · have e : (List.range mk).map (fun t => if t < k0.1.length then xs t else xr (t - k0.1.length)) = (List.range k0.1.length).map xs ++ (List.range r).map xr := by
           rw [hmk, List.range_add, List.map_append, List.map_map]
           congr 1
           · apply List.map_congr_left
             intro j hj
             rw [if_pos (List.mem_range.1 hj)]
           · apply List.map_congr_left
             intro j hj
             simp only [Function.comp]
             rw [if_neg (by omega)]
             congr 1
             omega
         rw [e, hmk]
         exact owns_base hown7 (Nat.zero_le _)
       · by_cases e : t < k0.1.length
         · simp only [if_pos e]
           exact (hxs6 t e).keep (hk67 _ (by decide)) (hk67 _ (by decide))
         · simp only [if_neg e]
           have q := (Hxr.out (t - k0.1.length) (by omega)).2
           rw [show k0.1.length + (t - k0.1.length) = t by omega, ← HeT.out] at q
           exact ((q.keep (KeepT.of_below hB6) (KeepT.of_below hB6)).keep (hk67 _ (by decide)) (hk67 _ (by decide)))
     obtain ⟨ak, cck, e7⟩ := hC7.form
     subst e7
     clear hown6 hxs6 hown7 hgrow7 hk67 hT6 hB6 Hnews Hone hb7 hb6 hmk
     -- what is found is taken up; idle blocks are freed; what was the sequence's is left; the tokens are laid
     have hS7 := Hh.out.below hB7
     have huse := use_any F ok g c hc (k0 :: H0) il B free (far, 0) w7 hS7 Hf5.out (by simp; omega)
     rw [← Hvf.out] at huse
     simp only [] at huse
     rw [← Heup'.out] at huse
     have Huse := hide huse
     have HT7 := hide hT7
     have HC7 := hide hC7
     have HB7 := hide hB7
     have hsz7 := hB7.size
     clear huse hS7 hT7 hC7 hB7
     refine Huse.out.mono ?_
     rintro e w8 ⟨rfl, hS8, hM8⟩
     clear Huse
     have hsz8 := hM8.size
     obtain ⟨vI8, vF8, N8, Mm8, hL8⟩ := hS8.low
     obtain ⟨arr8, o0, o1, o2, o3, o4, o5, o6, o7, o8⟩ := hL8.obj
     have c8 : w8.cell? ⟨g.X, 8, none⟩ = some (.pointer (some ⟨g.PL, 0, none⟩)) := by rw [cell_blk o0]; exact o6
     have hpf := poolfree_any g.PL vF8 free w8 hL8.pool
     have hev := evict_any (grow F w7) ok g c hc ((far, 0) :: k0 :: H0) up B free ((need : Int) - ow - free.length) w8 hS8
     obtain ⟨ev, eev⟩ : ∃ ev, ev = evN ((need : Int) - ow - free.length) up := ⟨_, rfl⟩
     rw [← eev] at hev
     have Hpf8 := hide hpf
     have Hev := hide hev
     have Heev := hide eev
     have HS8 := hide hS8
     have hwr3 : IntKind.i64.wrap ((need : Int) - ow - free.length) = (need : Int) - ow - free.length := wrap_in (by omega) (by omega)
     clear hpf hev eev hS8 hL8 o0 o1 o2 o3 o4 o5 o6 o7 o8 Hpf
     go_wp2_with fail
     refine Calls_use Hpf8.out ?_
     go_wp2_with fail
     refine Hev.out.mono ?_
     rintro e w9 ⟨rfl, B1, free1, hS9, hM9, hsub9⟩
     clear Hev Hpf8
     have hsz9 := hM9.size
     have hperm : ((far, 0) :: k0 :: H0).Perm (k0 :: (far, 0) :: H0) := List.Perm.swap _ _ _
     have hS9' := hS9.perm hc hperm
     have hlv := leave_any _ ok g c hc ((far, 0) :: H0) _ B1 free1 k0 w9 hS9'
     have hB1k : B1 k0 = B k0 := by
       by_cases e : k0.1 = []
       · rw [hS9.nil e, Hh.out.nil e]
       · exact hsub9 k0 (hS9'.head e)
     have hB1f : B1 (far, 0) = B (far, 0) := by
       by_cases e : far = []
       · rw [hS9.nil e, Hh.out.nil e]
       · exact hsub9 _ (hS9.head e)
     have hcov : ∀ x, on c.slots k0 x → x.2 = 0 → on c.slots (far, 0) x := fun x hx hx2 => far_covers Hh.out.pure T far hkT Hf2.out Hf6.out x hx hx2
     have hleft : leftOf c.slots ((far, 0) :: H0) k0 = [] := leftOf_covered s1 hk0.1 (far, 0) hcov
     have hnu := nUsed_covered (H0 := H0) s1 hk0.1 (fun x hx => Hh.out.pure.ok x (List.mem_cons_of_mem _ hx)) far (by unfold keyOk; simp [f4]) hcov (fun e => by have := hk0.1; unfold keyOk at this; exact this.2 (by rw [e]; simp))
     rw [← Heow.out] at hnu
     rw [hB1k, ← Hvk.out] at hlv
     have Hlv := hide hlv
     have Hleft := hide hleft
     have Hnu := hide hnu
     have HS9 := hide hS9
     have Hsub9 := hide hsub9
     have HB1f := hide hB1f
     clear hlv hleft hnu hS9 hS9' hB1k hB1f hcov hsub9 hperm
     go_wp2_with fail
     refine Hlv.out.mono ?_
     rintro e w10 ⟨rfl, B2, free2, hS10, hM10, hsub10⟩
     clear Hlv
     have hsz10 := hM10.size
     rw [Hleft.out, List.append_nil] at hS10
     have hcnt : need ≤ free2.length := by
       have a1 := HS8.out.count
       have a2 := HS9.out.count
       have a3 := hS10.count
       have a4 := Hnu.out
       have a5 := nUsed_perm c.slots ((far, 0) :: k0 :: H0) (k0 :: (far, 0) :: H0) s1 HS8.out.pure.ok (fun x => (List.Perm.swap k0 (far, 0) H0).mem_iff)
       have a6 := Heev.out
       unfold evN at a6
       simp only [List.length_drop] at a2 a3
       omega
     have hG : ∀ k, grow (grow (grow F w7) w8) w9 k → grow F w k := fun k hk => by
       rcases hk with ((hk | hk) | hk) | hk
       · exact .inl hk
       · exact .inr (by omega)
       · exact .inr (by omega)
       · exact .inr (by omega)
     have hS10' := hS10.mono hG
     have hMv : Moves (grow F w) w10 w10 := Moves.refl _ _
     have hkp : ∀ e, ¬ mutT e → KeepT e w7 w10 := fun e he => ((hM8.kept e he).trans (hM9.kept e he)).trans (hM10.kept e he)
     have hB2f : B2 (far, 0) = B (far, 0) := by
       by_cases e : far = []
       · rw [hS10.nil e, Hh.out.nil e]
       · rw [hsub10 _ (hS10.head e)]; exact HB1f.out
     have hilsub : ∀ p ∈ up.drop ev, p ∈ il := fun p hp => by
       have := List.mem_of_mem_drop hp
       rw [Heup'.out] at this
       exact ((mem_notUp _ _ _).1 this).1
     have hlay := lay_any (grow F w) ok g c hc H0 (up.drop ev) B2 free2 T (.slice a2 T.length cc2) (.slice ak mk cck) mk far.length tn w10.drew (by rw [← Hf2.out]; exact hS10'.below ((Below.refl _ _).drew)) (by exact HT7.out.keep (hkp _ (by unfold mutT; decide))) (by exact HC7.out.keepT (hkp _ (by unfold mutT; decide)) (hkp _ (by unfold mutT; decide)) (hkp _ (by unfold mutT; decide))) (by omega) hTtok hTl40 (fun x hx => Hok.out x (by have : w10.heap.size ≤ x := hx; omega)) ⟨fun hg => hg.elim hSM.1 (fun hle => by have := hSM.2; omega), by have := hSM.2; show g.SM < w10.heap.size; omega⟩ f4 f3 htn.1 (by rw [← Heneed'.out]; exact hcnt) (fun e he1 he2 _ hl => Hf6.out e he1 he2 (by
         rcases hl with hl | ⟨hl1, hl2⟩
         · exact .inl ((heldBy_cons _ _ _ _).2 (.inr hl))
         · exact .inr ⟨hl1, hilsub _ hl2⟩)) (fun _ hl => by
         rcases hl with ⟨x, hx, _, e | ⟨e, _⟩⟩ | ⟨e, _⟩
         · exact htn.2 x hx (by rw [← e])
         · exact htn.1 e
         · exact htn.1 e)
     rw [← Hf2.out, hB2f, ← Hvf.out] at hlay
     have hSM10 : w10.heap[g.SM]? = w.heap[g.SM]? := by
       have n7 : ¬ F g.SM := hSM.1
       have hlt := hSM.2
       have b7 := HB7.out.block g.SM hlt
       have b8 := hM8.only.block g.SM (by omega) n7
       have b9 := hM9.only.block g.SM (by omega) (fun hg => hg.elim n7 (fun hle => by omega))
       have b10 := hM10.only.block g.SM (by omega) (fun hg => hg.elim (fun hg => hg.elim n7 (fun hle => by omega)) (fun hle => by omega))
       exact b10.trans (b9.trans (b8.trans b7))
     have hMall : Moves F w w10 := by
       refine (Moves.of_below HB7.out).trans ((hM8.mono (fun k _ hk => .inl hk)).trans ?_)
       refine (hM9.mono (fun k _ hk => hk.elim (fun h => .inl (.inl h)) (fun h => .inr h))).trans (hM10.mono (fun k _ hk => ?_))
       rcases hk with (hk | hk) | hk
       · exact .inl (.inl (.inl hk))
       · exact .inl (.inr hk)
       · exact .inr hk
     obtain ⟨vI10, vF10, N10, Mm10, hL10⟩ := hS10.low
     obtain ⟨arr10, p0, p1, p2, p3, p4, p5, p6, p7, p8⟩ := hL10.obj
     have x13 : w10.cell? ⟨g.X, 13, none⟩ = some (.map (some g.SM)) := by rw [cell_blk p0]; exact p8
     have hX10 := lt_blk p0
     have Hlay := hide hlay
     have HSM10 := hide hSM10
     have HMall := hide hMall
     have HS10 := hide hS10
     have Hsub10 := hide hsub10
     clear hlay hSM10 hMall hS10 hS10' hsub10 hL10 p0 p1 p2 p3 p4 p5 p6 p7 p8 hG hkp hB2f hilsub hMv hM8 hM9 hM10 hcnt
     obtain ⟨ek, hek⟩ : ∃ ek, ek = endKey c.slots T tn := ⟨_, rfl⟩
     rw [← hek] at Hlay
     have Hek := hide hek
     clear hek
     go_wp2_with fail
     go_region_held3 (fun w' => w'.cell? ⟨g.X, 13, none⟩ = some (.map (some g.SM)))
       (first | (exact z13b) | (exact z13) | go_keep)
       (first | (go_at_call 53; refine Hlay.out.mono ?_; rintro e w11 ⟨B3, free3, rfl, hS11, hM11, hsub11⟩; have hSM11 : w11.heap[g.SM]? = w.heap[g.SM]? := ((hM11.only.block g.SM (by show g.SM < w10.heap.size; have := hSM.2; omega) (fun hg => hg.elim hSM.1 (fun hle => by have := hSM.2; omega))).trans HSM10.out); have hmap11 := Hmap.out.keep hSM11; obtain ⟨w12, hup, hmv, hg12, hs12⟩ := hmap11.putk Try.underlying3 (t := 71) Try.underlying71 (by unfold maxLen; omega) id (int_wf id hid.1 hid.2) (blkV (B3 ek)); have hobj11 := store_x13 hS11; obtain ⟨arr11, ax0, ax8⟩ := hobj11; have z13 : w11.cell? ⟨g.X, 13, none⟩ = some (.map (some g.SM)) := (by rw [cell_blk ax0]; exact ax8); have hXS : g.X ≠ g.SM := (fun e => by obtain ⟨es, cl, ho⟩ := hmap11.obj; rw [← e, ax0] at ho; cases ho); have z13b : w12.cell? ⟨g.X, 13, none⟩ = some (.map (some g.SM)) := hg12.cell z13 (fun e => hXS (by injection e))))
     go_wp2
     go_ret
     right
     have hTend : k0.1 ++ more = T := HeT.out.symm
     rw [hTend, ← Heup.out, ← Heneed.out, ← Heow.out, ← Heev.out, ← Hek.out]
     have hsz11 := hM11.size
     have hnS : ∀ k, grow (grow F w) w10.drew k → k ≠ g.SM := fun k hk e => by
       rw [e] at hk
       rcases hk with (hk | hk) | hk
       · exact hSM.1 hk
       · have := hSM.2; omega
       · have h1 : w10.heap.size ≤ g.SM := hk
         have := hSM.2; omega
     refine ⟨hroomI, rfl, ?_, B3, free3, ?_, hmv, fun h hh hne => ?_⟩
     · have m1 : Moves F w w11 := HMall.out.trans (show Moves (grow F w) w10 w11 from ⟨⟨hM11.only.os, hM11.only.tape, hM11.only.output, hM11.only.size, hM11.only.block⟩, hM11.kept⟩)
       refine ⟨(m1.only.mono (fun k _ hk => .inl hk)).grown hg12 (fun x hx _ => .inr (by injection hx with hx; exact hx.symm)), fun e he => (m1.kept e he).trans (fun x cur fr hx => ?_)⟩
       rw [hg12.block x (lt_blk hx) (fun e' => by
         injection e' with e'
         obtain ⟨es, cl, ho⟩ := hmap11.obj
         rw [← e', hx] at ho
         cases ho)]
       exact hx
     · refine (hS11.other_map hmap11 hg12 hnS).mono (fun k hk => ?_)
       rcases hk with hk | hk
       · exact hk
       · have h1 : w10.heap.size ≤ k := hk
         exact .inr (by omega)
     · have h2 : B2 h ≠ none := HS10.out.mem (by simp [hh]) hne
       rw [hsub11 h h2, Hsub10.out h h2]
       refine Hsub9.out h ?_
       rw [← Hsub10.out h h2]
       exact h2
end Go.Proofs.Ytlmflighkkgikaa
