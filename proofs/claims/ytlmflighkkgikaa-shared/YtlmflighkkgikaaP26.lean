import Derived.Lib.SliceRun
import Derived.LaidEqlPtr
import Derived.Lib.LazyBuf
import Derived.Test.YtlmflighkkgikaaP02
import Derived.Test.YtlmflighkkgikaaP24

namespace Go.Proofs.Ytlmflighkkgikaa
open Go.RowKit
attribute [local go_sem ↓] Go.wp_at_zero Go.wp_at_succ
def ptrV (b : Nat) : Value := .pointer (some ⟨b, 0, none⟩)
theorem ptrs_read {w : World} {v : Value} {ps : List Nat} {base : Nat} (h : w.ownsRow base 61 1 v ps.length (ps.map ptrV)) :
   ∃ a cap, v = .slice a ps.length cap ∧ ps.length ≤ cap ∧ cap ≤ maxLen ∧ (0 < ps.length → ∃ g, a = some ⟨g, 0, none⟩ ∧ g < w.heap.size ∧ ∀ j (hj : j < ps.length), w.cell? ⟨g, j, none⟩ = some (ptrV ps[j])) := by
 obtain ⟨_, ⟨q1, q2⟩ | ⟨g, cap, cur, q1, _, hg, q3, q4, _⟩⟩ := id h
 · exact ⟨none, 0, by rw [q1, q2], by omega, by simp [maxLen], fun h0 => absurd h0 (by omega)⟩
 · refine ⟨_, cap, q1, q3, q4, fun _ => ⟨g, rfl, lt_blk hg, fun j hj => ?_⟩⟩
   exact owns_at h (by rw [q1]; rfl) (by simp [hj])
def IndexAt (ps : List Nat) (b : Nat) (e : Ending) : Prop := (e = .returned (.int .i64 (-1)) ∧ b ∉ ps) ∨ ∃ k : Nat, e = .returned (.int .i64 k) ∧ k < ps.length ∧ ps[k]? = some b
set_option maxRecDepth 100000 in
set_option maxHeartbeats 1000000 in
theorem index_any (ps : List Nat) (b : Nat) (v : Value) (w : World) (h : w.ownsRow 0 61 1 v ps.length (ps.map ptrV)) (hl : ps.length ≤ 1000) (hB : ∀ x, x = b ∨ x ∈ ps → ∃ ca, w.heap[x]? = some (.cells ca 87 (0, 0))) :
   Calls Try.prog 78 #[v, ptrV b] w fun e w' =>
     IndexAt ps b e ∧ w' = w := by
 obtain ⟨a, cap, rfl, h1, h2, h3⟩ := ptrs_read h
 unfold maxLen at h2
 have H3 := hide h3
 clear h3 h
 obtain ⟨jb, hjb, hjs⟩ : ∃ j, Try.prog.info? 87 = some j ∧ j.size ≠ 0 := by
   have h : (Try.prog.info? 87).map (fun i => i.size) = some 3 := by kernel_rfl
   cases hi : Try.prog.info? 87 with
   | none => rw [hi] at h; cases h
   | some i => rw [hi] at h; simp at h; exact ⟨i, rfl, by omega⟩
 have heq := fun a : Addr => run_eql_ptr_same (P := Try.prog) w a Try.underlying61 hjb
 have HB := hide hB
 clear hB
 unfold ptrV
 go_enter Try.func78, Try.ntmps78
 go_wp2
 go_loop [5, 8] (fun _ i => ∃ k : Nat, k ≤ ps.length ∧ i = .int .i64 k ∧ Hid (∀ j (hj : j < ps.length), j < k → ps[j] ≠ b)) (fun _ i => ps.length - (intOf i).toNat)
 case atStart => exact ⟨0, Nat.zero_le _, rfl, fun j _ hj => absurd hj (by omega)⟩
 case round =>
   obtain ⟨k, hk, rfl, Hne⟩ := hrel
   by_cases hlt : k < ps.length
   · obtain ⟨g, rfl, hg, hc⟩ := H3.out (by omega)
     have ck := hc k hlt
     unfold ptrV at ck
     clear hc
     by_cases he : ps[k] = b
     · rw [he] at ck
       have heq1 := heq ⟨b, 0, none⟩
       clear heq
       go_wp2
       go_ret
       exact ⟨.inr ⟨k, rfl, hlt, by rw [List.getElem?_eq_getElem hlt, he]⟩, rfl⟩
     · have He := hide he
       have he2 : ¬ b = ps[k] := fun e => he e.symm
       clear he
       generalize hpk : ps[k] = pk at ck he2
       obtain ⟨ca, hca⟩ := HB.out b (.inl rfl)
       obtain ⟨cb, hcb⟩ := HB.out pk (.inr (by rw [← hpk]; exact List.getElem_mem _))
       have hneq := run_eql_ptr_other (P := Try.prog) w Try.underlying61 hjb hjs (a := ⟨b, 0, none⟩) (b := ⟨pk, 0, none⟩) (fun e => he2 (by injection e)) hca hcb
       clear heq hca hcb
       have Hpk := hide hpk
       clear hpk
       go_wp2
       go_round
       case rel =>
         refine ⟨k + 1, by omega, by go_num, fun j hj hjk => ?_⟩
         by_cases e : j = k
         · subst e; exact He.out
         · exact Hne.out j hj (by omega)
       case measure => simp [intOf]; omega
   · go_wp2
     go_ret
     refine ⟨.inl ⟨rfl, fun hm => ?_⟩, rfl⟩
     obtain ⟨j, hj, e⟩ := List.mem_iff_getElem.1 hm
     exact Hne.out j hj (by omega) e
theorem Try.info_ptr : (Try.prog.info? 61).map (fun i => (i.zero, i.size, i.bytes)) = some (some (.pointer none), 1, 8) := by kernel_rfl
theorem Try.zero_ptr (w : World) : (zeroValue 61).run Try.prog w = .ok (.pointer none) w := by
 have h : (Try.prog.info? 61).map (fun i => i.zero) = some (some (.pointer none)) := by kernel_rfl
 cases hi : Try.prog.info? 61 with
 | none => rw [hi] at h; cases h
 | some i =>
   rw [hi] at h
   simp at h
   simp [zeroValue, typeInfo, hi, h, go_sem]
theorem only_setCells (g : Nat) : ∀ (vs : List Value) (o : Nat) (w w0 : World), Only (fun k => k = g) w0 w → Only (fun k => k = g) w0 (w.setCells g o vs)
 | [], _, _, _, h => h
 | v :: r, o, _w, w0, h => only_setCells g r (o + 1) _ w0 (h.setCell (fun _ => rfl) v)
theorem size_setCells (g : Nat) : ∀ (vs : List Value) (o : Nat) (w : World), (w.setCells g o vs).heap.size = w.heap.size
 | [], _, _ => rfl
 | v :: r, o, w => by rw [World.setCells, size_setCells g r]; simp [World.setCell]
set_option maxRecDepth 100000 in
set_option maxHeartbeats 4000000 in
theorem delete_any (g cap n i : Nat) (f : Nat → Value) (w : World) (h : w.rowIs g 61 cap f) (hn : n ≤ cap) (hcap : cap ≤ 9223372036854775807) (hi : i < n) (h1 : ∀ j, j < n → (f j).oneCell' = true) :
   Calls Try.prog 79 #[.slice (some ⟨g, 0, none⟩) n cap, .int .i64 i, .int .i64 (i + 1)] w fun e w' =>
     e = .returned (.slice (some ⟨g, 0, none⟩) (n - 1) cap) ∧ (∃ f', w'.rowIs g 61 cap f' ∧ ∀ j, j < n - 1 → f' j = f (if j < i then j else j + 1)) ∧ Only (fun k => k = g) w w' ∧ w'.heap.size = w.heap.size := by
 obtain ⟨i0, hi0, hz0, hz1, hz2⟩ := info_parts Try.info_ptr
 obtain ⟨news, hnews⟩ : ∃ news, news = (List.range (n - (i + 1))).map (fun t => f (i + 1 + t)) := ⟨_, rfl⟩
 have hlen : news.length = n - (i + 1) := by rw [hnews]; simp
 have hget : ∀ t, t < n - (i + 1) → news[t]? = some (f (i + 1 + t)) := fun t ht => by rw [hnews]; simp [ht]
 have hcell : ∀ j, j < cap → w.drew.cell? ⟨g, j, none⟩ = some (f j) := fun j hj => h.cell hj
 have hfroz : ∀ j, w.drew.frozen? ⟨g, j, none⟩ = false := fun j => h.frozen j
 obtain ⟨A, hA, hsrc⟩ : ∃ A : Addr, (if cap = i + 1 then some (⟨g, 0, none⟩ : Addr) else some ⟨g, i + 1, none⟩) = some A ∧ Hid (∀ t u, news[t]? = some u → w.drew.cell? (A.add t) = some u) := by
   by_cases hc : cap = i + 1
   · refine ⟨⟨g, 0, none⟩, by simp [hc], fun t u hu => ?_⟩
     have h0 : news.length = 0 := by rw [hlen]; omega
     rw [List.length_eq_zero_iff.1 h0] at hu
     simp at hu
   · refine ⟨⟨g, i + 1, none⟩, by simp [hc], fun t u hu => ?_⟩
     have ht : t < n - (i + 1) := by
       have := (List.getElem?_eq_some_iff.1 hu).1
       rwa [hlen] at this
     rw [hget t ht] at hu
     have e : (⟨g, i + 1, none⟩ : Addr).add t = ⟨g, i + 1 + t, none⟩ := by unfold Addr.add; split <;> simp_all
     rw [e, hcell _ (by omega)]
     exact hu
 have s1 : Hid (news.length = (n - (i + 1)) * 1) := by rw [Nat.mul_one]; exact hlen
 have s2 : Hid (∀ u ∈ news, u.oneCell' = true) := by
   intro u hu
   rw [hnews] at hu
   obtain ⟨x, hx, rfl⟩ := List.mem_map.1 hu
   exact h1 _ (by have := List.mem_range.1 hx; omega)
 have s3 : Hid (∀ t, t < news.length → (w.drew.cell? ⟨g, 0 + i * 1 + t, none⟩).isSome = true ∧ w.drew.frozen? ⟨g, 0 + i * 1 + t, none⟩ = false) := by
   intro t ht
   rw [hlen] at ht
   exact ⟨by rw [hcell _ (by omega)]; rfl, hfroz _⟩
 obtain ⟨W1, hW1⟩ : ∃ W1, W1 = w.drew.setCells g (0 + i * 1) news := ⟨_, rfl⟩
 have hr1 := rowIs_setCells news (0 + i * 1) w.drew f h
 rw [← hW1] at hr1
 have hO1 := only_setCells g news (0 + i * 1) w.drew w ((Only.refl _ _).drewN 1)
 have hsz1 := size_setCells g news (0 + i * 1) w.drew
 rw [← hW1] at hO1 hsz1
 have hcl : ∀ ty, (Builtin.clear_ #[68] ty #[.slice (some ⟨g, i + (n - (i + 1)), none⟩) (n - (i + (n - (i + 1)))) (cap - (i + (n - (i + 1))))]).run Try.prog W1 = .ok (.tuple #[]) (W1.setCells g (i + (n - (i + 1))) (List.replicate (n - (i + (n - (i + 1)))) (.pointer none))) :=
   fun ty => Lib.run_clear_slice W1 _ _ ty _ Try.underlying68 Try.zero_ptr rfl rfl g (i + (n - (i + 1))) _ _ (by omega) (fun t ht => by rw [hr1.cell (by omega)]; rfl) (fun t ht => hr1.frozen _)
 have hr2 := rowIs_setCells (List.replicate (n - (i + (n - (i + 1)))) (.pointer none)) (i + (n - (i + 1))) W1 _ hr1
 have hO2 := only_setCells g (List.replicate (n - (i + (n - (i + 1)))) (.pointer none)) (i + (n - (i + 1))) W1 w hO1
 have hsz2 := size_setCells g (List.replicate (n - (i + (n - (i + 1)))) (.pointer none)) (i + (n - (i + 1))) W1
 have HR2 := hide hr2
 have HO2 := hide hO2
 have HS2 := hide (hsz2.trans hsz1)
 have hW : Hid (W1 = w.drew.setCells g (0 + i * 1) news) := hW1
 have Hget := hide hget
 have Hlen := hide hlen
 have hic : i ≤ cap := by omega
 have hjc : i + 1 ≤ cap := by omega
 have hb0 : (0 : Int) ≤ (i : Int) + 1 := by omega
 have hb1 : (i : Int) + 1 ≤ (n : Int) := by omega
 have hne : ((i : Int) == (i : Int) + 1) = false := by rw [beq_eq_false_iff_ne]; omega
 clear hW1 hr1 hO1 hsz1 hr2 hO2 hsz2 hget hlen hnews hcell hfroz h
 go_enter Try.func79, Try.ntmps79
 go_wp2_with fail
 go_region_law (refine step_append_room rfl (.tmp 22) (.tmp 25) 68 rfl 61 i0 1 Try.underlying68 hi0 hz1 g 0 i cap (by simp [Act.eval, Act.put]) A (n - (i + 1)) (cap - (i + 1)) news (by simp [Act.eval, Act.put]) s1.out hsrc.out s2.out (by omega) s3.out ?_; rw [← hW.out])
 have hl1 : ((i + (n - (i + 1)) : Nat) : Int) ≤ (n : Int) := by omega
 go_wp2
 go_ret
 refine ⟨by rw [show n - 1 = i + (n - (i + 1)) by omega]; rfl, ⟨_, HR2.out, fun j hj => ?_⟩, HO2.out, HS2.out⟩
 rw [if_neg (by omega)]
 by_cases hji : j < i
 · rw [if_neg (by omega), if_pos hji]
 · rw [if_pos (by have := Hlen.out; omega), if_neg hji, show j - (0 + i * 1) = j - i by omega, Hget.out (j - i) (by omega), show i + 1 + (j - i) = j + 1 by omega]
   rfl
theorem owns_row {w : World} {e : TypeId} {g n cap : Nat} {xs : List Value} {base : Nat} (h : w.ownsRow base e 1 (.slice (some ⟨g, 0, none⟩) n cap) n xs) : ∃ f, w.rowIs g e cap f ∧ n ≤ cap ∧ cap ≤ maxLen ∧ xs = (List.range n).map f := by
 obtain ⟨hl, ⟨q1, _⟩ | ⟨g', cap', cur, q1, _, hg, q3, q4, q5, q6⟩⟩ := h
 · cases q1
 · injection q1 with q1 _ q2
   injection q1 with q1
   injection q1 with q1 _ _
   subst q1 q2
   refine ⟨fun j => cur[j]?.getD undef, ⟨cur, hg, by omega, fun j hj => ?_⟩, q3, q4, ?_⟩
   · have hj' : j < cur.size := by omega
     show cur[j]? = some (cur[j]?.getD undef)
     rw [Array.getElem?_eq_getElem hj']; rfl
   · rw [← q6]
     apply List.ext_getElem?
     intro j
     by_cases hj : j < n
     · rw [List.getElem?_take_of_lt (by omega)]
       simp [hj, show j < cur.size by omega]
     · rw [List.getElem?_eq_none (by simp; omega), List.getElem?_eq_none (by simp; omega)]
theorem row_owns {w : World} {e : TypeId} {g n cap : Nat} {f : Nat → Value} {xs : List Value} (h : w.rowIs g e cap f) (h1 : n ≤ cap) (h2 : cap ≤ maxLen) (hx : xs = (List.range n).map f) : w.ownsRow 0 e 1 (.slice (some ⟨g, 0, none⟩) n cap) n xs := by
 obtain ⟨cur, hg, hs, hc⟩ := h
 subst hx
 refine ⟨by simp, .inr ⟨g, cap, cur, rfl, Nat.zero_le _, hg, h1, h2, by omega, ?_⟩⟩
 apply List.ext_getElem?
 intro j
 by_cases hj : j < n
 · rw [List.getElem?_take_of_lt (by omega)]
   have := hc j (by omega)
   simp [hj]
   simpa using this
 · rw [List.getElem?_eq_none (by simp; omega), List.getElem?_eq_none (by simp; omega)]
theorem erase_map (ps : List Nat) (k b : Nat) (hk : k < ps.length) (hb : ps[k]? = some b) (hn : ps.Nodup) : (List.range (ps.length - 1)).map (fun j => ptrV (ps.getD (if j < k then j else j + 1) 0)) = (ps.erase b).map ptrV := by
 have e1 : ps.erase b = ps.eraseIdx k := by
   have h1 : ps.idxOf b = k := by
     have hg : ps[k] = b := by
       rw [List.getElem?_eq_getElem hk] at hb
       injection hb
     rw [← hg]
     exact hn.idxOf_getElem k hk
   rw [List.erase_eq_eraseIdx_of_idxOf h1]
 rw [e1]
 apply List.ext_getElem?
 intro j
 by_cases hj : j < ps.length - 1
 · rw [List.getElem?_map, List.getElem?_map, List.getElem?_eraseIdx, List.getElem?_range hj]
   simp only [Option.map_some]
   by_cases hjk : j < k
   · simp [hjk, List.getD_eq_getElem?_getD, show j < ps.length by omega]
   · simp [hjk, List.getD_eq_getElem?_getD, show j + 1 < ps.length by omega]
 · rw [List.getElem?_eq_none (by simp; omega), List.getElem?_eq_none]
   rw [List.length_map, List.length_eraseIdx, if_pos hk]
   omega
structure SeqAt (ok : Nat → Prop) (w : World) (c : Cfg) (B : Key → Option Nat) (U : Key → Nat) (k : Key) : Prop where
 blks : BlksI ok w c B U
 nil : k.1 = [] → B k = none
 here : k.1 ≠ [] → B k ≠ none
theorem SeqAt.below {ok : Nat → Prop} {w w' : World} {c : Cfg} {B : Key → Option Nat} {U : Key → Nat} {k : Key} (h : SeqAt ok w c B U k) (hb : Below w.heap.size w w') : SeqAt ok w' c B U k := ⟨h.blks.below hb, h.nil, h.here⟩
theorem SeqAt.len {ok : Nat → Prop} {w : World} {c : Cfg} {B : Key → Option Nat} {U : Key → Nat} {k : Key} (h : SeqAt ok w c B U k) : k.1.length ≤ 40 := by
 by_cases e : k.1 = []
 · rw [e]; simp
 · exact (h.blks.ne k (h.here e)).2.2.1
theorem seqall_any (ok : Nat → Prop) (c : Cfg) (hc : c.ok) (B : Key → Option Nat) (U : Key → Nat) (k : Key) (w : World) (h : SeqAt ok w c B U k) :
   Calls Try.prog 54 #[blkV (B k)] w fun e w' => ∃ r, e = .returned r ∧ SlotsI w.heap.size ok w' r c k.1 0 k.1.length ∧ Below w.heap.size w w' :=
 all_any ok c hc B U _ k w (Nat.le_refl _) h.blks h.nil h.here
theorem two_allocs (w : World) (o : Obj) (x : Value) (t : TypeId) : ∀ (j : Nat) (u : Value), [x][j]? = some u → ((w.alloc o).alloc (.cells #[x] t)).cell? ((⟨w.heap.size + 1, 0, none⟩ : Addr).add j) = some u := by
 intro j u hj
 have := one_new (w.alloc o) x t j u hj
 simpa using this
set_option maxRecDepth 100000 in
set_option maxHeartbeats 2000000 in
theorem tokens_any (ok : Nat → Prop) (c : Cfg) (hc : c.ok) (B : Key → Option Nat) (U : Key → Nat) (k : Key) (w : World) (h : SeqAt ok w c B U k) :
   Calls Try.prog 41 #[blkV (B k)] w fun e w' => ∃ r, e = .returned r ∧ w'.ownsRow w.heap.size 3 1 r k.1.length ((List.range k.1.length).map fun j => .int .i64 (tkI k.1 j)) ∧ Below w.heap.size w w' := by
 obtain ⟨i0, hi, hz0, hz1, hz2⟩ := info_parts Try.info_int
 have hl := h.len
 have hall := seqall_any ok c hc B U k w h
 have Hall := hide hall
 clear hall h
 generalize B k = pv at Hall ⊢
 go_enter Try.func41, Try.ntmps41
 go_wp2_with fail
 refine Hall.out.mono ?_
 rintro e W ⟨r, rfl, ⟨S, hr1, hr2⟩, hb⟩
 obtain ⟨ar, cr, er⟩ := owns_form hr1
 subst er
 obtain ⟨n, en⟩ : ∃ n, n = k.1.length := ⟨_, rfl⟩
 rw [← en] at hr1 hr2 hl ⊢
 have hcell : ∀ j u, ((List.range (n * 2)).map S)[j]? = some u → 0 < n → ∃ g, ar = some ⟨g, 0, none⟩ ∧ g < W.heap.size ∧ W.cell? ⟨g, j, none⟩ = some u := fun j u hj h0 => by
   obtain ⟨_, ⟨_, q2⟩ | ⟨g, cap, cur, q1, _, hg, _⟩⟩ := id hr1
   · omega
   · injection q1 with q1 _ _
     subst q1
     exact ⟨g, rfl, lt_blk hg, owns_at hr1 rfl hj⟩
 have hcr : n ≤ cr ∧ cr ≤ maxLen := by
   obtain ⟨_, ⟨q1, q2⟩ | ⟨g, cap, cur, q1, _, hg, q3, q4, _⟩⟩ := id hr1
   · injection q1 with _ _ q1; subst q1; exact ⟨by omega, by simp [maxLen]⟩
   · injection q1 with _ _ q1; subst q1; exact ⟨q3, q4⟩
 unfold maxLen at hcr
 obtain ⟨hcr1, hcr2⟩ := hcr
 have Hcell := hide hcell
 have Hr2 := hide hr2
 have En := hide en
 clear hcell hr1 hr2 en Hall
 go_wp2
 go_loopw [3, 9] (fun o i wr => ∃ j : Nat, j ≤ n ∧ i = .int .i64 j ∧ wr.ownsRow W.heap.size 3 1 o j ((List.range j).map fun j => .int .i64 (tkI k.1 j)) ∧ Below W.heap.size W wr) (fun _ i _ => n - (intOf i).toNat)
 case atStart => exact ⟨0, Nat.zero_le _, rfl, World.ownsRow_nil _ _ _ _, Below.refl _ _⟩
 case round =>
   obtain ⟨j, hj, rfl, hown, hbel⟩ := hrel
   have hsz := hbel.size
   by_cases hjq : j < n
   · obtain ⟨t1, hC⟩ := Hr2.out j hjq
     obtain ⟨bc, cc, _, _, ecv, _⟩ := id hC
     obtain ⟨g, rfl, hg, k1⟩ := Hcell.out (j * 2) _ (by simp [show j * 2 < n * 2 by omega]; rfl) (by omega)
     obtain ⟨g', eg, _, k2⟩ := Hcell.out (j * 2 + 1) _ (by simp [show j * 2 + 1 < n * 2 by omega]; rfl) (by omega)
     injection eg with eg
     injection eg with eg _ _
     subst eg
     rw [t1, Nat.zero_add] at k1
     rw [ecv] at k2
     replace k1 := (hbel.cell (p := ⟨g, j * 2, none⟩) hg).trans k1
     replace k2 := (hbel.cell (p := ⟨g, j * 2 + 1, none⟩) hg).trans k2
     clear t1 hC ecv
     generalize htk : tkI k.1 j = tk at k1
     have Htk := hide htk
     clear htk
     go_wp2_with (at_builtin; refine wpList_append_own _ rfl _ _ 24 rfl W.heap.size 3 i0 (.int .i64 0) 1 8 Try.underlying24 hi hz0 hz1 hz2 rfl (by decide) _ _ _ rfl ((hown.alloc _).alloc _) ⟨wr.heap.size + 1, 0, none⟩ 1 1 [.int .i64 tk] rfl rfl (two_allocs wr _ _ _) (one_int _) (by unfold maxLen; omega) (by omega) (by simp; omega) ?_; intro v1 w1 hown1 hgrow1 _)
     have hbel1 : Below W.heap.size W w1 := ((hbel.alloc hsz _).alloc (by simp; omega) _).grown hgrow1 (by simp; omega) (fun g hg => (hown.lt g hg).1)
     rw [← Htk.out, ← range_map_succ (fun j => Value.int .i64 (tkI k.1 j))] at hown1
     clear hown hgrow1
     go_wp2
     go_roundw
     case rel => exact ⟨j + 1, by omega, by go_num, hown1, hbel1⟩
     case measure => simp [intOf]; omega
   · have hje : j = n := by omega
     subst hje
     go_wp2
     go_ret
     rw [← En.out]
     exact ⟨_, rfl, owns_base hown hb.size, hb.trans (hbel.mono hb.size)⟩
theorem Try.info_cell : (Try.prog.info? 105).map (fun i => (i.zero, i.size, i.bytes)) = some (some (.slice none 0 0), 1, 24) := by kernel_rfl
def CellsI (base : Nat) (ok : Nat → Prop) (w : World) (v : Value) (c : Cfg) (T : List Nat) (n : Nat) : Prop :=
 ∃ xs : Nat → Value, w.ownsRow base 105 1 v n ((List.range n).map xs) ∧ ∀ t, t < n → CellI ok w (xs t) c.layers c.width (kOf c (tkN T) t) (vOf c (tkN T) t)
theorem CellsI.nil (base : Nat) (ok : Nat → Prop) (w : World) (c : Cfg) (T : List Nat) {n : Nat} (h : n = 0) : CellsI base ok w (.slice none 0 0) c T n := by
 subst h
 exact ⟨fun _ => undef, World.ownsRow_nil _ _ _ _, fun t ht => absurd ht (by omega)⟩
theorem CellsI.push {base : Nat} {ok : Nat → Prop} {w : World} {v x : Value} {c : Cfg} {T : List Nat} {n : Nat} {xs : Nat → Value} (h : w.ownsRow base 105 1 v (n + 1) ((List.range n).map xs ++ [x]))
   (hx : ∀ t, t < n → CellI ok w (xs t) c.layers c.width (kOf c (tkN T) t) (vOf c (tkN T) t)) (hn : CellI ok w x c.layers c.width (kOf c (tkN T) n) (vOf c (tkN T) n)) : CellsI base ok w v c T (n + 1) := by
 refine ⟨fun t => if t = n then x else xs t, ?_, fun t ht => ?_⟩
 · have e : (List.range (n + 1)).map (fun t => if t = n then x else xs t) = (List.range n).map xs ++ [x] := by
     rw [range_map_succ, if_pos rfl]
     congr 1
     apply List.map_congr_left
     intro i hi
     rw [if_neg (by have := List.mem_range.1 hi; omega)]
   rw [e]; exact h
 · by_cases e : t = n
   · subst e; simp only [if_true]; exact hn
   · simp only [if_neg e]; exact hx t (by omega)
theorem CellsI.base {base base' : Nat} {ok : Nat → Prop} {w : World} {v : Value} {c : Cfg} {T : List Nat} {n : Nat} (h : CellsI base ok w v c T n) (hb : base' ≤ base) : CellsI base' ok w v c T n := by
 obtain ⟨xs, h1, h2⟩ := h
 exact ⟨xs, owns_base h1 hb, h2⟩
set_option maxRecDepth 100000 in
set_option maxHeartbeats 2000000 in
theorem cells_any (ok : Nat → Prop) (c : Cfg) (hc : c.ok) (B : Key → Option Nat) (U : Key → Nat) (k : Key) (w : World) (h : SeqAt ok w c B U k) :
   Calls Try.prog 52 #[blkV (B k)] w fun e w' => ∃ r, e = .returned r ∧ CellsI w.heap.size ok w' r c k.1 k.1.length ∧ Below w.heap.size w w' := by
 obtain ⟨i0, hi, hz0, hz1, hz2⟩ := info_parts Try.info_cell
 have hl := h.len
 have hall := seqall_any ok c hc B U k w h
 have Hall := hide hall
 clear hall h
 generalize B k = pv at Hall ⊢
 go_enter Try.func52, Try.ntmps52
 go_wp2_with fail
 refine Hall.out.mono ?_
 rintro e W ⟨r, rfl, ⟨S, hr1, hr2⟩, hb⟩
 obtain ⟨ar, cr, er⟩ := owns_form hr1
 subst er
 obtain ⟨n, en⟩ : ∃ n, n = k.1.length := ⟨_, rfl⟩
 rw [← en] at hr1 hr2 hl ⊢
 have hcell : ∀ j u, ((List.range (n * 2)).map S)[j]? = some u → 0 < n → ∃ g, ar = some ⟨g, 0, none⟩ ∧ g < W.heap.size ∧ W.cell? ⟨g, j, none⟩ = some u := fun j u hj h0 => by
   obtain ⟨_, ⟨_, q2⟩ | ⟨g, cap, cur, q1, _, hg, _⟩⟩ := id hr1
   · omega
   · injection q1 with q1 _ _
     subst q1
     exact ⟨g, rfl, lt_blk hg, owns_at hr1 rfl hj⟩
 have hcr : n ≤ cr ∧ cr ≤ maxLen := by
   obtain ⟨_, ⟨q1, q2⟩ | ⟨g, cap, cur, q1, _, hg, q3, q4, _⟩⟩ := id hr1
   · injection q1 with _ _ q1; subst q1; exact ⟨by omega, by simp [maxLen]⟩
   · injection q1 with _ _ q1; subst q1; exact ⟨q3, q4⟩
 unfold maxLen at hcr
 obtain ⟨hcr1, hcr2⟩ := hcr
 have Hcell := hide hcell
 have Hr2 := hide hr2
 have En := hide en
 clear hcell hr1 hr2 en Hall
 go_wp2
 go_loopw [3, 9] (fun o i wr => ∃ j : Nat, j ≤ n ∧ i = .int .i64 j ∧ CellsI W.heap.size ok wr o c k.1 j ∧ Below W.heap.size W wr) (fun _ i _ => n - (intOf i).toNat)
 case atStart => exact ⟨0, Nat.zero_le _, rfl, CellsI.nil _ _ _ _ _ rfl, Below.refl _ _⟩
 case round =>
   obtain ⟨j, hj, rfl, hown, hbel⟩ := hrel
   have hsz := hbel.size
   by_cases hjq : j < n
   · obtain ⟨t1, hC⟩ := Hr2.out j hjq
     obtain ⟨bc, cc, _, _, ecv, _⟩ := id hC
     obtain ⟨g, rfl, hg, k1⟩ := Hcell.out (j * 2) _ (by simp [show j * 2 < n * 2 by omega]; rfl) (by omega)
     obtain ⟨g', eg, _, k2⟩ := Hcell.out (j * 2 + 1) _ (by simp [show j * 2 + 1 < n * 2 by omega]; rfl) (by omega)
     injection eg with eg
     injection eg with eg _ _
     subst eg
     rw [t1, Nat.zero_add] at k1
     rw [ecv] at k2
     replace k1 := (hbel.cell (p := ⟨g, j * 2, none⟩) hg).trans k1
     replace k2 := (hbel.cell (p := ⟨g, j * 2 + 1, none⟩) hg).trans k2
     rw [ecv, Nat.zero_add] at hC
     have HC := hide (hC.below hbel)
     obtain ⟨xs, hown0, hxs⟩ := hown
     have Hxs := hide hxs
     clear t1 hC ecv hxs
     generalize htk : tkI k.1 j = tk at k1
     have Htk := hide htk
     clear htk
     go_wp2_with (at_builtin; refine wpList_append_own _ rfl _ _ 78 rfl W.heap.size 105 i0 (.slice none 0 0) 1 24 Try.underlying78 hi hz0 hz1 hz2 rfl (by decide) _ _ _ rfl ((hown0.alloc _).alloc _) ⟨wr.heap.size + 1, 0, none⟩ 1 1 [.slice (some ⟨bc, 0, none⟩) c.layers cc] rfl rfl (two_allocs wr _ _ _) (by intro u hu; simp at hu; subst hu; rfl) (by unfold maxLen; omega) (by omega) (by simp; omega) ?_; intro v1 w1 hown1 hgrow1 _)
     have hbel1 : Below W.heap.size W w1 := ((hbel.alloc hsz _).alloc (by simp; omega) _).grown hgrow1 (by simp; omega) (fun g hg => (hown0.lt g hg).1)
     have kk : ∀ e : TypeId, e ≠ 105 → KeepT e wr w1 := fun e he => ((KeepT.alloc _ _).trans (KeepT.alloc _ _)).trans (KeepT.of_grown ((hown0.alloc _).alloc _) hgrow1 he)
     have hown2 := CellsI.push hown1 (fun t ht => (Hxs.out t ht).keep (kk _ (by decide)) (kk _ (by decide))) (HC.out.keep (kk _ (by decide)) (kk _ (by decide)))
     clear hown0 hown1 kk hgrow1
     go_wp2
     go_roundw
     case rel => exact ⟨j + 1, by omega, by go_num, hown2, hbel1⟩
     case measure => simp [intOf]; omega
   · have hje : j = n := by omega
     subst hje
     go_wp2
     go_ret
     rw [← En.out]
     exact ⟨_, rfl, hown.base hb.size, hb.trans (hbel.mono hb.size)⟩
def PtrsI (w : World) (v : Value) (ps : List Nat) : Prop := w.ownsRow 0 61 1 v ps.length (ps.map ptrV)
theorem listlen_any (X o : Nat) (v : Value) (ps : List Nat) (w : World) (hc : w.cell? ⟨X, o, none⟩ = some v) (h : PtrsI w v ps) :
   Calls Try.prog 38 #[.pointer (some ⟨X, o, none⟩)] w fun e w' => e = .returned (.int .i64 ps.length) ∧ w' = w := by
 obtain ⟨a, cap, rfl, h1, h2, _⟩ := ptrs_read h
 go_enter Try.func38, Try.ntmps38
 go_wp2
 go_ret
 exact ⟨rfl, rfl⟩
theorem listfirst_any (X o p : Nat) (v : Value) (ps : List Nat) (w : World) (hc : w.cell? ⟨X, o, none⟩ = some v) (h : PtrsI w v (p :: ps)) (hl : ps.length ≤ 1000) :
   Calls Try.prog 43 #[.pointer (some ⟨X, o, none⟩)] w fun e w' => e = .returned (ptrV p) ∧ w' = w := by
 obtain ⟨a, cap, rfl, h1, h2, h3⟩ := ptrs_read h
 obtain ⟨g, rfl, hg, h4⟩ := h3 (by simp)
 have c0 := h4 0 (by simp)
 simp only [List.getElem_cons_zero, List.length_cons] at c0 hc h1
 unfold maxLen at h2
 clear h4 h3 h
 have j1 : (0 : Int) < (ps.length : Int) + 1 := by omega
 unfold ptrV at c0 ⊢
 go_enter Try.func43, Try.ntmps43
 go_wp2
 go_ret
 exact ⟨rfl, rfl⟩
set_option maxRecDepth 100000 in
set_option maxHeartbeats 1000000 in
theorem listadd_any (X o b : Nat) (v : Value) (ps : List Nat) (arr : Array Value) (ty : TypeId) (w : World) (hX : w.heap[X]? = some (.cells arr ty (0, 0))) (hty : ty ≠ 61) (hc : arr[o]? = some v) (h : PtrsI w v ps) (hl : ps.length ≤ 1000) :
   Calls Try.prog 62 #[.pointer (some ⟨X, o, none⟩), ptrV b] w fun e w' =>
     e = .returned (.tuple #[]) ∧ ∃ v', w'.heap[X]? = some (.cells (arr.setIfInBounds o v') ty (0, 0)) ∧ PtrsI w' v' (ps ++ [b]) ∧ Only (fun k => k = X ∨ v.ownBlock = some k) w w' ∧ (v'.ownBlock = v.ownBlock ∨ ∃ g, v'.ownBlock = some g ∧ w.heap.size ≤ g) := by
 obtain ⟨i0, hi, hz0, hz1, hz2⟩ := info_parts Try.info_ptr
 obtain ⟨a, cap, rfl, h1, h2, _⟩ := ptrs_read h
 have c0 : w.cell? ⟨X, o, none⟩ = some (.slice a ps.length cap) := by rw [cell_blk hX]; exact hc
 have f0 := frozen_blk hX o
 have hXl := lt_blk hX
 have neX := owns_ne h hX hty
 have c0' : ∀ o', (w.alloc o').cell? ⟨X, o, none⟩ = some (.slice a ps.length cap) := fun o' => (World.cell?_alloc_past _ _ _ hXl).trans c0
 unfold maxLen at h2
 unfold ptrV
 go_enter Try.func62, Try.ntmps62
 go_wp2_with (at_builtin; refine wpList_append_lies _ rfl _ _ _ rfl 0 61 i0 _ 1 8 Try.underlying68 hi hz0 hz1 hz2 rfl (by omega) (.slice a ps.length cap) ps.length _ rfl (World.ownsRow.alloc h _) ⟨w.heap.size, 0, none⟩ 1 1 [.pointer (some ⟨b, 0, none⟩)] rfl rfl (one_new w _ _) (by intro u hu; simp at hu; subst hu; rfl) (by omega) (by unfold maxLen; omega) (by omega) (by omega) (w.heap.size + 1) (by simp) ?_; intro g cap1 w1 hown1 hgrow hat hlt1; have hX1 := (hgrow.block X (by simp; omega) neX).trans ((alloc_old _ _ _ hXl).trans hX); have d0 : w1.cell? ⟨X, o, none⟩ = some (.slice a ps.length cap) := (by rw [cell_blk hX1]; exact hc); have g0 := frozen_blk hX1 o)
 refine bodyPost_end (v := .tuple #[]) (by simp [results, Try.results62]) rfl ⟨rfl, _, setCell_blk hX1 _ _, ?_, ?_, ?_⟩
 · unfold PtrsI
   rw [List.length_append, List.map_append]
   have hXg : g ≠ X := fun e => by
     obtain ⟨_, ⟨q1, _⟩ | ⟨g', cap', cur, q1, _, hg, _⟩⟩ := hown1
     · cases q1
     · injection q1 with q1 _ _
       injection q1 with q1
       injection q1 with q1 _ _
       rw [← q1, e, hX1] at hg
       injection hg with hg
       injection hg with _ hg _
       exact hty hg
   obtain ⟨hl', ⟨q1, _⟩ | ⟨g', cap', cur, q1, r1, hg, r⟩⟩ := hown1
   · cases q1
   · refine ⟨hl', .inr ⟨g', cap', cur, q1, r1, ?_, r⟩⟩
     injection q1 with q1 _ _
     injection q1 with q1
     injection q1 with q1 _ _
     rw [setCell_far _ _ _ _ _ (by rw [← q1]; exact hXg)]
     exact hg
 · exact (((Only.refl _ w).alloc _).grown hgrow (fun g hg _ => .inr hg)).setCell (fun _ => .inl rfl) _
 · rcases hat with hat | hat
   · left; rw [hat]; rfl
   · right; exact ⟨g, rfl, by omega⟩
set_option maxRecDepth 100000 in
set_option maxHeartbeats 1000000 in
theorem listremove_any (X o b : Nat) (v : Value) (ps : List Nat) (arr : Array Value) (ty : TypeId) (w : World) (hX : w.heap[X]? = some (.cells arr ty (0, 0))) (hty : ty ≠ 61) (hc : arr[o]? = some v) (h : PtrsI w v ps) (hl : ps.length ≤ 1000) (hn : ps.Nodup)
   (hB : ∀ x, x = b ∨ x ∈ ps → ∃ ca, w.heap[x]? = some (.cells ca 87 (0, 0))) :
   Calls Try.prog 60 #[.pointer (some ⟨X, o, none⟩), ptrV b] w fun e w' =>
     e = .returned (.tuple #[]) ∧ ∃ v', w'.heap[X]? = some (.cells (arr.setIfInBounds o v') ty (0, 0)) ∧ PtrsI w' v' (ps.erase b) ∧ Only (fun k => k = X ∨ v.ownBlock = some k) w w' ∧ v'.ownBlock = v.ownBlock := by
 obtain ⟨a, cap, rfl, h1, h2, h3⟩ := ptrs_read h
 have c0 : w.cell? ⟨X, o, none⟩ = some (.slice a ps.length cap) := by rw [cell_blk hX]; exact hc
 have f0 := frozen_blk hX o
 have hXl := lt_blk hX
 have neX := owns_ne h hX hty
 have hsame : arr.setIfInBounds o (.slice a ps.length cap) = arr := by
   apply Array.ext_getElem?
   intro j
   by_cases e : o = j
   · subst e
     have hlt := (Array.getElem?_eq_some_iff.1 hc).1
     rw [Array.getElem?_setIfInBounds_self_of_lt hlt, hc]
   · rw [Array.getElem?_setIfInBounds_ne e]
 have hix := index_any ps b (.slice a ps.length cap) w h hl hB
 have Hix := hide hix
 have Hsame := hide hsame
 clear hix hsame
 go_enter Try.func60, Try.ntmps60
 go_wp2_with fail
 refine Hix.out.mono ?_
 rintro e W ⟨hix, rfl⟩
 rcases hix with ⟨rfl, hno⟩ | ⟨k, rfl, hk, hkb⟩
 · have Hno := hide hno
   clear hno
   go_wp2
   refine bodyPost_end (v := .tuple #[]) (by simp [results, Try.results60]) rfl ⟨rfl, .slice a ps.length cap, ?_, ?_, Only.refl _ _, rfl⟩
   · rw [Hsame.out]; exact hX
   · rw [List.erase_of_not_mem Hno.out]; exact h
 · obtain ⟨g, rfl, hg, h4⟩ := h3 (by omega)
   obtain ⟨f, hrow, _, _, hf⟩ := owns_row h
   have hfj : ∀ j, j < ps.length → f j = ptrV (ps.getD j 0) := fun j hj => by
     have := congrArg (fun l => l[j]?) hf
     simp [hj] at this
     rw [← this, List.getD_eq_getElem?_getD]
     simp [hj]
   have hdel := delete_any g cap ps.length k f W hrow h1 (by unfold maxLen at h2; exact h2) hk (fun j hj => by rw [hfj j hj]; rfl)
   have Hdel := hide hdel
   have Hfj := hide hfj
   have Hkb := hide hkb
   have hneg : g ≠ X := fun e => neX (by rw [← e]; rfl)
   clear hdel hfj hkb h3 h4 hf hB
   have hw1 : IntKind.i64.wrap ((k : Int) + 1) = (k : Int) + 1 := wrap_in (by omega) (by omega)
   go_wp2_with fail
   refine Hdel.out.mono ?_
   rintro e W2 ⟨rfl, ⟨f', hrow', hf'⟩, hO, hsz⟩
   have hX2 := (hO.block X hXl (fun e => hneg e.symm)).trans hX
   have d0 : W2.cell? ⟨X, o, none⟩ = some (.slice (some ⟨g, 0, none⟩) ps.length cap) := by rw [cell_blk hX2]; exact hc
   have g0 := frozen_blk hX2 o
   have Hrow' := hide hrow'
   have Hf' := hide hf'
   clear hrow' hf' hrow Hdel
   go_wp2
   refine bodyPost_end (v := .tuple #[]) (by simp [results, Try.results60]) rfl ⟨rfl, _, setCell_blk hX2 _ _, ?_, (hO.mono (fun k _ hk => .inr (by rw [hk]; rfl))).setCell (fun _ => .inl rfl) _, rfl⟩
   have hlen : (ps.erase b).length = ps.length - 1 := List.length_erase_of_mem (List.mem_of_getElem? Hkb.out)
   unfold PtrsI
   rw [hlen, ← erase_map ps k b hk Hkb.out hn]
   refine row_owns (f := f') ?_ (by omega) h2 ?_
   · obtain ⟨cur, q1, q2, q3⟩ := Hrow'.out
     exact ⟨cur, by rw [setCell_far _ _ _ _ _ hneg]; exact q1, q2, q3⟩
   · apply List.map_congr_left
     intro j hj
     have hj := List.mem_range.1 hj
     rw [Hf'.out j hj, Hfj.out]
     split <;> omega
end Go.Proofs.Ytlmflighkkgikaa
