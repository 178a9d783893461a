import Derived.Test.YtlmflighkkgikaaGreatP31
import Derived.Test.YtlmflighkkgikaaGreatP37

namespace Go.Proofs.YtlmflighkkgikaaGreat
open Go.RowKit
attribute [local go_sem ↓] Go.wp_at_zero Go.wp_at_succ
theorem reffree_none (Y d : Nat) (c : Cfg) (L : List (Int × Key)) (ok : Nat → Prop) (il : List (List Nat)) (nt : Nat) (vL vI : Value) (id : Int) (w : World) (h : RefI ok w Y d c L il nt vL vI) (hno : assoc L id = none) :
   Calls Tryz.prog 27 #[.pointer (some ⟨Y, 0, none⟩), .int .i64 id] w fun e w' => e = .returned (.int .i64 3) ∧ w' = w := by
 have y1 : w.cell? ⟨Y, 1, none⟩ = some vL := by rw [cell_blk h.obj]; rfl
 have hf := reffind_none Y id vL L ok w y1 h.seqs (by have := h.many; omega) hno
 have Hf := hide hf
 clear hf h hno
 go_enter Tryz.func27, Tryz.ntmps27
 go_wp2_with fail
 refine Calls_use Hf.out ?_
 go_wp2
 go_ret
 exact ⟨rfl, rfl⟩
theorem seq_cut (L1 L2 : List (Int × Key)) (x : Int × Key) (i : Nat) : (i < L1.length → idAt (L1 ++ L2) i = idAt (L1 ++ x :: L2) i ∧ toksAt (L1 ++ L2) i = toksAt (L1 ++ x :: L2) i ∧ tailAt (L1 ++ L2) i = tailAt (L1 ++ x :: L2) i) ∧ (L1.length ≤ i → idAt (L1 ++ L2) i = idAt (L1 ++ x :: L2) (i + 1) ∧ toksAt (L1 ++ L2) i = toksAt (L1 ++ x :: L2) (i + 1) ∧ tailAt (L1 ++ L2) i = tailAt (L1 ++ x :: L2) (i + 1)) := by
 constructor
 · intro h
   have e : (L1 ++ L2).getD i (0, ([], 0)) = (L1 ++ x :: L2).getD i (0, ([], 0)) := by
     rw [List.getD_eq_getElem?_getD, List.getD_eq_getElem?_getD, List.getElem?_append_left h, List.getElem?_append_left h]
   unfold idAt toksAt tailAt
   rw [e]
   exact ⟨rfl, rfl, rfl⟩
 · intro h
   have e : (L1 ++ L2).getD i (0, ([], 0)) = (L1 ++ x :: L2).getD (i + 1) (0, ([], 0)) := by
     rw [List.getD_eq_getElem?_getD, List.getD_eq_getElem?_getD, List.getElem?_append_right h, List.getElem?_append_right (by omega), show i + 1 - L1.length = (i - L1.length) + 1 by omega, List.getElem?_cons_succ]
   unfold idAt toksAt tailAt
   rw [e]
   exact ⟨rfl, rfl, rfl⟩
theorem SeqsI.cut {ok : Nat → Prop} {w w' : World} {v' : Value} {L1 L2 : List (Int × Key)} {x : Int × Key} {F : Nat → Value}
   (hF : ∀ i, i < (L1 ++ x :: L2).length → F (i * 3) = .int .i64 (idAt (L1 ++ x :: L2) i) ∧ (TokT w (F (i * 3 + 1)) (toksAt (L1 ++ x :: L2) i) ∧ okV ok (F (i * 3 + 1))) ∧ F (i * 3 + 2) = .int .i64 (tailAt (L1 ++ x :: L2) i))
   (hown : w'.ownsRow 0 113 3 v' (L1.length + L2.length) ((List.range (L1.length * 3)).map F ++ (List.range (L2.length * 3)).map fun j => F ((L1.length + 1) * 3 + j))) (hk : KeepT 3 w w') : SeqsI ok w' v' (L1 ++ L2) := by
 refine ⟨fun j => if j < L1.length * 3 then F j else F (j + 3), ?_, fun i hi => ?_⟩
 · have e : (List.range ((L1 ++ L2).length * 3)).map (fun j => if j < L1.length * 3 then F j else F (j + 3)) = (List.range (L1.length * 3)).map F ++ (List.range (L2.length * 3)).map fun j => F ((L1.length + 1) * 3 + j) := by
     rw [List.length_append, Nat.add_mul, range_map_add]
     congr 1
     · apply List.map_congr_left
       intro j hj
       rw [if_pos (List.mem_range.1 hj)]
     · apply List.map_congr_left
       intro j hj
       rw [if_neg (by omega)]
       congr 1
       omega
   rw [e, List.length_append]
   exact hown
 · rw [List.length_append] at hi
   by_cases hlt : i < L1.length
   · obtain ⟨q1, q2, q3⟩ := (seq_cut L1 L2 x i).1 hlt
     rw [q1, q2, q3]
     simp only []
     rw [if_pos (by omega), if_pos (by omega), if_pos (by omega)]
     obtain ⟨h1, ⟨h2, h2'⟩, h3⟩ := hF i (by simp; omega)
     exact ⟨h1, ⟨h2.keep hk, h2'⟩, h3⟩
   · obtain ⟨q1, q2, q3⟩ := (seq_cut L1 L2 x i).2 (by omega)
     rw [q1, q2, q3]
     simp only []
     rw [if_neg (by omega), if_neg (by omega), if_neg (by omega)]
     obtain ⟨h1, ⟨h2, h2'⟩, h3⟩ := hF (i + 1) (by simp; omega)
     rw [show i * 3 + 3 = (i + 1) * 3 by omega, show i * 3 + 1 + 3 = (i + 1) * 3 + 1 by omega, show i * 3 + 2 + 3 = (i + 1) * 3 + 2 by omega]
     exact ⟨h1, ⟨h2.keep hk, h2'⟩, h3⟩
theorem cell_lt {w : World} {a : Addr} {v : Value} (h : w.cell? a = some v) : a.block < w.heap.size := by
 unfold World.cell? at h
 cases hb : w.heap[a.block]? with
 | none => rw [hb] at h; cases h
 | some o => exact (Array.getElem?_eq_some_iff.1 hb).1
def leftJ (W U : List (List Nat)) (j : Nat) : List (List Nat) := (W.reverse.take j).filter (fun p => p ∉ U)
theorem leftJ_step (W U : List (List Nat)) (j : Nat) (hj : j < W.length) : leftJ W U (j + 1) = leftJ W U j ++ (if W.getD (W.length - 1 - j) [] ∈ U then [] else [W.getD (W.length - 1 - j) []]) := by
 unfold leftJ
 rw [take_snoc' _ [] j (by simpa using hj), List.filter_append]
 have e : W.reverse.getD j [] = W.getD (W.length - 1 - j) [] := by
   rw [List.getD_eq_getElem?_getD, List.getD_eq_getElem?_getD, List.getElem?_reverse hj]
 rw [e]
 generalize W.getD (W.length - 1 - j) [] = p
 by_cases h : p ∈ U <;> simp [h]
theorem leftJ_len (W U : List (List Nat)) (j : Nat) : (leftJ W U j).length ≤ W.length := by
 unfold leftJ
 have := List.length_filter_le (fun p => decide (p ∉ U)) (W.reverse.take j)
 have h2 : (W.reverse.take j).length ≤ W.length := by rw [List.length_take, List.length_reverse]; omega
 omega
theorem TokRow.stays {w w' : World} {v : Value} {l : List (List Nat)} (h : TokRow w v l) (hb : ∀ a n c, v = .slice (some a) n c → 0 < n → w'.heap[a.block]? = w.heap[a.block]?) (hs : w.heap.size ≤ w'.heap.size) (hk : KeepT 3 w w') : TokRow w' v l := by
 obtain ⟨vs, ⟨a, c, rfl, h1, h2, h3⟩, hT⟩ := h
 refine ⟨vs, ⟨a, c, rfl, h1, h2, fun h0 => ?_⟩, fun i hi => (hT i hi).keep hk⟩
 obtain ⟨b, off, rfl, hlt, hc⟩ := h3 h0
 exact ⟨b, off, rfl, by omega, fun j hj => (World.cell?_of_block (w := w) (a := ⟨b, off + j, none⟩) (hb ⟨b, off, none⟩ _ _ rfl h0)).trans (hc j hj)⟩
def RefFreed (ok : Nat → Prop) (w : World) (Y d : Nat) (c : Cfg) (L1 L2 : List (Int × Key)) (il : List (List Nat)) (nt : Nat) (vL vI : Value) (k0 : Key) (e : Ending) (w' : World) : Prop :=
 e = .returned (.int .i64 0) ∧ RefTo ok w Y d c vL vI (L1 ++ L2) (il ++ leftOf c.slots ((L1 ++ L2).map (·.2)) k0) nt w'
structure FreeI (ok : Nat → Prop) (w W6 wr : World) (Y d : Nat) (c : Cfg) (M : List (Int × Key)) (il' : List (List Nat)) (nt : Nat) (vL' vI vJ : Value) : Prop where
 ref : RefI ok wr Y d c M il' nt vL' vJ
 only : Only (fun k => k = Y ∨ atB vI k) W6 wr
 keep : KeepT 3 W6 wr
 at' : ∀ k, atB vJ k → atB vI k ∨ W6.heap.size ≤ k
theorem IdleTo.form {ok : Nat → Prop} {w w' : World} {v v' : Value} {il : List (List Nat)} {T : List Nat} (h : IdleTo ok w v il T v' w') : ∃ a n c, v' = .slice a n c := by
 rcases h.idle with ⟨e, _⟩ | ⟨b, off, cap, cur, e, _⟩
 · exact ⟨_, _, _, e⟩
 · exact ⟨_, _, _, e⟩
theorem FreeI.below {ok : Nat → Prop} {w W6 wr wr' : World} {Y d : Nat} {c : Cfg} {M : List (Int × Key)} {il' : List (List Nat)} {nt : Nat} {vL' vI vJ : Value} (h : FreeI ok w W6 wr Y d c M il' nt vL' vI vJ) (hb : Below wr.heap.size wr wr') : FreeI ok w W6 wr' Y d c M il' nt vL' vI vJ :=
 ⟨h.ref.below hb, h.only.trans (Only.of_below hb _) (fun _ _ q => q), h.keep.trans (KeepT.of_below hb), h.at'⟩
theorem FreeI.push {ok : Nat → Prop} {w W6 wr W9 : World} {Y d : Nat} {c : Cfg} {M : List (Int × Key)} {il' : List (List Nat)} {nt : Nat} {vL' vI vJ v' : Value} {p : List Nat} (h : FreeI ok w W6 wr Y d c M il' nt vL' vI vJ) (hto : IdleTo ok wr vJ il' p v' W9) (hp : 1 ≤ p.length ∧ p.length ≤ 40) (hl : il'.length < 1000) :
   FreeI ok w W6 (W9.setCell ⟨Y, 2, none⟩ v') Y d c M (il' ++ [p]) nt vL' vI v' := by
 have hobj9 := hto.keep _ (by decide) _ _ _ h.ref.obj
 have ks : ∀ e : TypeId, e ≠ 85 → KeepT e W9 (W9.setCell ⟨Y, 2, none⟩ v') := fun e he => KeepT.setCell hobj9 he _
 refine ⟨h.ref.setIdle (by rw [setCell_blk hobj9]; rfl) (fun e h1 h2 => (hto.keep e h2).trans (ks e h1)) (hto.idle.stays (fun a n cp e => by obtain ⟨cur, q⟩ := hto.idle.own e; rw [ks _ (by decide) _ _ _ q, q]) (KeepOk.of (ks _ (by decide))) (fun _ h => h)) (by simp; omega) (fun q hq => ?_), ?_, (h.keep.trans (hto.keep _ (by decide))).trans (ks _ (by decide)), fun k hk => ?_⟩
 · rcases List.mem_append.1 hq with hq | hq
   · exact h.ref.ilne q hq
   · simp at hq; subst hq; exact hp
 · refine (h.only.trans hto.only (fun k hk hv => ?_)).setCell (fun _ => .inl rfl) _
   rcases h.at' k hv with q | q
   · exact .inr q
   · omega
 · rcases hto.at' k hk with q | q
   · exact h.at' k q
   · have := h.only.size; exact .inr (by omega)
set_option maxRecDepth 100000 in
set_option maxHeartbeats 8000000 in
theorem reffree_some (Y d : Nat) (c : Cfg) (hc : c.ok) (L1 L2 : List (Int × Key)) (ok : Nat → Prop) (il : List (List Nat)) (nt : Nat) (vL vI : Value) (id : Int) (k0 : Key) (w : World) (h : RefI ok w Y d c (L1 ++ (id, k0) :: L2) il nt vL vI) (hno : assoc L1 id = none) (hil : il.length ≤ 100) :
   Calls Tryz.prog 27 #[.pointer (some ⟨Y, 0, none⟩), .int .i64 id] w fun e w' => RefFreed ok w Y d c L1 L2 il nt vL vI k0 e w' := by
 obtain ⟨i1, hi', hz0', hz1', hz2'⟩ := info_parts Tryz.info_seq
 obtain ⟨i2, hi2, hy0, hy1, hy2⟩ := info_parts Tryz.info_ints2
 obtain ⟨s1, s2⟩ := hc.slots
 have hYl := lt_blk h.obj
 have y0 : w.cell? ⟨Y, 0, none⟩ = some (.pointer (some ⟨d, 0, none⟩)) := by rw [cell_blk h.obj]; rfl
 have y1 : w.cell? ⟨Y, 1, none⟩ = some vL := by rw [cell_blk h.obj]; rfl
 have hmany := h.many
 have hf := reffind_at Y id vL L1 L2 k0 ok w y1 h.seqs (by omega) hno
 have Hf := hide hf
 obtain ⟨g, cap, vT, eV, hc1, hc2, c0, c1, c2, hT, hoT, hgl⟩ := h.mid
 have dd1 : w.cell? ⟨d, 1, none⟩ = some (.int .i64 c.slots) := by
   obtain ⟨vW, h1, _⟩ := h.dec
   rw [cell_blk h1]; rfl
 have hlenk : 1 ≤ k0.1.length ∧ k0.1.length ≤ 40 := h.len (id, k0) (by simp)
 have hwh := refwholes_tk ok Y d c.slots vT k0.1 w y0 dd1 hYl h.dec.lt hT hoT s1 (by omega) (by have := hlenk.2; omega)
 have Hwh := hide hwh
 have hln : (L1 ++ (id, k0) :: L2).length = L1.length + 1 + L2.length := by simp; omega
 rw [hln] at hc1 hmany eV
 unfold maxLen at hc2
 have y1' : w.cell? ⟨Y, 1, none⟩ = some (.slice (some ⟨g, 0, none⟩) (L1.length + 1 + L2.length) cap) := by rw [← eV]; exact y1
 have HeV := hide eV
 have Hh := hide h
 clear hf hwh y1 eV h c0 c2
 go_enter Tryz.func27, Tryz.ntmps27
 go_wp2_with fail
 refine Calls_use Hf.out ?_
 clear Hf
 go_wp2_with fail
 refine Hwh.out.mono ?_
 rintro e W1 ⟨vw, rfl, hown, hb1⟩
 have hB1s := hb1.size
 have k1 := (hb1.cell (p := ⟨Y, 1, none⟩) hYl).trans y1'
 have hobj1 := (hb1.block Y hYl).trans Hh.out.obj
 have hY1 := lt_blk hobj1
 have fY1 := frozen_blk hobj1 1
 obtain ⟨aw, cw, ew⟩ := hown.toks.len
 subst ew
 obtain ⟨F, hF1, hF2⟩ := (Hh.out.below hb1).seqs
 rw [HeV.out, hln] at hF1
 have hcells := hF1.cells (g := g) rfl
 have hone : ∀ j, j < (L1.length + 1 + L2.length) * 3 → (F j).oneCell' = true := fun j hj => by
   obtain ⟨q1, q2, q3⟩ := hF2 (j / 3) (by rw [hln]; omega)
   have hcase : j = j / 3 * 3 ∨ j = j / 3 * 3 + 1 ∨ j = j / 3 * 3 + 2 := by omega
   rcases hcase with e | e | e
   · rw [e, q1]; rfl
   · obtain ⟨a, cc, ea, _⟩ := q2.1.slice
     rw [e, ea]; rfl
   · rw [e, q3]; rfl
 have hn1 : ∀ (j : Nat) (u : Value), ((List.range (L1.length * 3)).map F)[j]? = some u → W1.cell? ((⟨g, 0, none⟩ : Addr).add j) = some u := fun j u hj => by
   have hlt : j < L1.length * 3 := by have := (List.getElem?_eq_some_iff.1 hj).1; simpa using this
   refine hcells j u ?_
   simp [hlt] at hj
   rw [List.getElem?_map, List.getElem?_range (by omega)]
   simp [hj]
 have hn2 : ∀ (j : Nat) (u : Value), ((List.range (L2.length * 3)).map fun j => F ((L1.length + 1) * 3 + j))[j]? = some u → W1.cell? ((⟨g, (L1.length + 1) * 3, none⟩ : Addr).add j) = some u := fun j u hj => by
   have hlt : j < L2.length * 3 := by have := (List.getElem?_eq_some_iff.1 hj).1; simpa using this
   have := hcells ((L1.length + 1) * 3 + j) u (by
     simp [hlt] at hj
     rw [List.getElem?_map, List.getElem?_range (by omega)]
     simp [hj])
   rw [addr_add] at this ⊢
   simpa using this
 have Hn1 := hide hn1
 have Hn2 := hide hn2
 have Hone := hide hone
 have HF2 := hide hF2
 have Hown := hide hown
 clear hn1 hn2 hone hF2 hcells hown Hwh y0 dd1 hT c1
 go_upto_region 6 with fail
 go_cut [7] from 25 to 32 (fun t wc => ∃ a cp, t = .slice a L1.length cp ∧ wc.ownsRow W1.heap.size 113 3 (.slice a L1.length cp) L1.length ((List.range (L1.length * 3)).map F) ∧ Below W1.heap.size W1 wc)
 case first =>
   go_wp2_with (at_builtin; refine wpList_append_own _ rfl _ _ 83 rfl W1.heap.size 113 i1 _ 3 40 Tryz.underlying83 hi' hz0' hz1' hz2' rfl (by decide) (.slice none 0 0) 0 [] rfl (World.ownsRow_nil _ _ _ _) ⟨g, 0, none⟩ L1.length cap ((List.range (L1.length * 3)).map F) rfl (by simp) Hn1.out (by intro u hu; obtain ⟨j, hj, rfl⟩ := List.mem_map.1 hu; exact Hone.out j (by have := List.mem_range.1 hj; omega)) (by unfold maxLen; omega) (by omega) (Nat.le_refl _) ?_; intro v1 W2 hown1 hgrow1 _)
   rw [List.nil_append] at hown1
   simp only [Nat.zero_add] at hown1
   obtain ⟨a1, c1, e1⟩ := owns_form hown1
   subst e1
   go_meet
   exact ⟨a1, c1, rfl, hown1, (Below.refl _ _).grown hgrow1 (Nat.le_refl _) (fun k hk => by cases hk)⟩
 case rest =>
   obtain ⟨a1, cp1, e1, hown1, hb2⟩ := hcut
   obtain ⟨W2, hW2⟩ : ∃ W2, W2 = wc := ⟨_, rfl⟩
   rw [← hW2] at hown1 hb2 ⊢
   clear hW2
   subst e1
   have hB2s := hb2.size
   have k1' := (hb2.cell (p := ⟨Y, 1, none⟩) hY1).trans k1
   have hobj2 := (hb2.block Y hY1).trans hobj1
   have fY2 := frozen_blk hobj2 1
   have hn2' : ∀ (j : Nat) (u : Value), ((List.range (L2.length * 3)).map fun j => F ((L1.length + 1) * 3 + j))[j]? = some u → W2.cell? ((⟨g, (L1.length + 1) * 3, none⟩ : Addr).add j) = some u := fun j u hj => by
     have := Hn2.out j u hj
     rw [addr_add] at this ⊢
     rw [hb2.cell (p := ⟨g, _, none⟩) (show g < W1.heap.size by omega)]
     exact this
   have Hn2' := hide hn2'
   have hR1 := Hh.out.below hb1
   have HR1 := hide hR1
   clear hn2' hR1
   go_upto_region 7 with fail
   go_cut [] from 33 to 44 (fun wc => ∃ vL', RefI ok wc Y d c (L1 ++ L2) il nt vL' vI ∧ Only (fun k => k = Y) W1 wc ∧ (∀ k, vL'.ownBlock = some k → W1.heap.size ≤ k) ∧ (∀ e : TypeId, e ≠ 85 → KeepT e W1 wc))
   case first =>
     have hfin : ∀ v' W3, W3.ownsRow W1.heap.size 113 3 v' (L1.length + L2.length) ((List.range (L1.length * 3)).map F ++ (List.range (L2.length * 3)).map fun j => F ((L1.length + 1) * 3 + j)) → Below W1.heap.size W1 W3 → ∃ vL', RefI ok (W3.setCell ⟨Y, 1, none⟩ v') Y d c (L1 ++ L2) il nt vL' vI ∧ Only (fun k => k = Y) W1 (W3.setCell ⟨Y, 1, none⟩ v') ∧ (∀ k, vL'.ownBlock = some k → W1.heap.size ≤ k) ∧ (∀ e : TypeId, e ≠ 85 → KeepT e W1 (W3.setCell ⟨Y, 1, none⟩ v')) := fun v' W3 ho hb => by
       have hobj3 := (hb.block Y hY1).trans hobj1
       have kk : ∀ e : TypeId, e ≠ 85 → KeepT e W1 (W3.setCell ⟨Y, 1, none⟩ v') := fun e he => (KeepT.of_below hb).trans (KeepT.setCell hobj3 he _)
       have hq := HR1.out
       refine ⟨v', ⟨by rw [setCell_blk hobj3]; rfl, ?_, hq.idle.stays (fun a n cp e => by obtain ⟨cur, q⟩ := hq.idle.own e; rw [kk _ (by decide) _ _ _ q, q]) (KeepOk.of (kk _ (by decide))) (fun _ h => h), hq.dec.keep (kk _ (by decide)) (kk _ (by decide)), hq.tails.of_keys (fun y hy => ⟨y, by rcases List.mem_append.1 hy with hy | hy <;> simp [hy], rfl⟩), by simp; omega, fun x hx => hq.len x (by rcases List.mem_append.1 hx with hx | hx <;> simp [hx]), fun x hx => hq.toks x (by rcases List.mem_append.1 hx with hx | hx <;> simp [hx]), hq.ilen, hq.ilne⟩, (Only.of_below hb (fun k => k = Y)).setCell (p := ⟨Y, 1, none⟩) (fun _ => rfl) _, fun k hk => (ho.lt k hk).1, kk⟩
       have hs := SeqsI.cut (ok := ok) (w := W1) HF2.out (owns_base ho (Nat.zero_le _)) (KeepT.of_below hb)
       exact hs.stays (fun k hk => by
         obtain ⟨_, ⟨q2, _⟩ | ⟨g', cap', cur', e', hg', hh', rest⟩⟩ := ho
         · rw [q2] at hk; cases hk
         · rw [e'] at hk; injection hk with hk; subst hk
           rw [KeepT.setCell hobj3 (e := 113) (by decide) v' _ _ _ hh', hh']) (KeepOk.of (KeepT.setCell hobj3 (by decide) _)) (fun _ h => h)
     have Hfin := hide hfin
     clear hfin
     by_cases hcap : cap = L1.length + 1
     · have hL20 : L2.length = 0 := by omega
       have hL2 : L2 = [] := List.eq_nil_of_length_eq_zero hL20
       have Hfin2 : Hid (∀ v' W3, W3.ownsRow W1.heap.size 113 3 v' L1.length ((List.range (L1.length * 3)).map F) → Below W1.heap.size W1 W3 → _) := fun v' W3 ho hb => Hfin.out v' W3 (by rw [hL2]; simpa using ho) hb
       have HL20 := hide hL20
       clear hL2 hL20
       subst hcap
       go_wp2_with (at_builtin; refine wpList_append_own _ rfl _ _ 83 rfl W1.heap.size 113 i1 _ 3 40 Tryz.underlying83 hi' hz0' hz1' hz2' rfl (by decide) (.slice a1 L1.length cp1) L1.length _ rfl hown1 ⟨g, 0, none⟩ 0 0 [] rfl (by simp) (by intro j u hj; simp at hj) (by intro u hu; simp at hu) (by unfold maxLen; omega) (by omega) hB2s ?_; intro v1 W3 hown3 hgrow3 _; obtain ⟨a3, c3, e3⟩ := owns_form hown3; subst e3; have y3 := hgrow3.cell k1' (show some Y ≠ _ from fun e => by have := (hown1.lt Y e.symm).1; omega); have f3 := (World.frozen?_of_block (hgrow3.block Y (by omega) (show some Y ≠ _ from fun e => by have := (hown1.lt Y e.symm).1; omega))).trans fY2)
       go_meet
       rw [List.append_nil] at hown3
       exact Hfin2.out _ W3 hown3 (hb2.grown hgrow3 hB2s (fun k hk => (hown1.lt _ hk).1))
     · have hlt : L1.length + 1 < cap := by omega
       go_wp2_with (at_builtin; refine wpList_append_own _ rfl _ _ 83 rfl W1.heap.size 113 i1 _ 3 40 Tryz.underlying83 hi' hz0' hz1' hz2' rfl (by decide) (.slice a1 L1.length cp1) L1.length _ rfl hown1 ⟨g, (L1.length + 1) * 3, none⟩ L2.length (cap - (L1.length + 1)) ((List.range (L2.length * 3)).map fun j => F ((L1.length + 1) * 3 + j)) rfl (by simp) Hn2'.out (by intro u hu; obtain ⟨j, hj, rfl⟩ := List.mem_map.1 hu; exact Hone.out _ (by have := List.mem_range.1 hj; omega)) (by unfold maxLen; omega) (by omega) hB2s ?_; intro v1 W3 hown3 hgrow3 _; obtain ⟨a3, c3, e3⟩ := owns_form hown3; subst e3; have y3 := hgrow3.cell k1' (show some Y ≠ _ from fun e => by have := (hown1.lt Y e.symm).1; omega); have f3 := (World.frozen?_of_block (hgrow3.block Y (by omega) (show some Y ≠ _ from fun e => by have := (hown1.lt Y e.symm).1; omega))).trans fY2)
       go_meet
       exact Hfin.out _ W3 hown3 (hb2.grown hgrow3 hB2s (fun k hk => (hown1.lt _ hk).1))
   case rest =>
     obtain ⟨vL', hR, hO, hlo, hkk⟩ := hcut
     obtain ⟨W3, hW3⟩ : ∃ W3, W3 = wc := ⟨_, rfl⟩
     rw [← hW3] at hR hO hkk ⊢
     clear hW3
     have hus := refused_any Y d c hc (L1 ++ L2) ok il nt vL' vI W3 hR
     have Hus := hide hus
     have hO3s := hO.size
     clear hus
     go_wp2_with fail
     refine Hus.out.mono ?_
     rintro e W6 ⟨vu, rfl, hou, hb6⟩
     obtain ⟨au, cu, eu⟩ := hou.len
     subst eu
     have hub := used_bd (s := c.slots) (L1 ++ L2).length hR.many (fun i hi => (hR.lenAt i hi).2)
     rw [List.take_of_length_le (by rw [toksOf_len]; omega)] at hub
     obtain ⟨U, eU⟩ : ∃ U, U = usedOf c.slots (toksOf (L1 ++ L2)) := ⟨_, rfl⟩
     rw [← eU] at hou hub ⊢
     obtain ⟨N, eN⟩ : ∃ N, N = wholesOf c.slots k0.1 := ⟨_, rfl⟩
     have hNl : N.length ≤ 40 := by rw [eN, wholesOf_len]; have := hlenk.2; exact Nat.le_trans (Nat.div_le_self _ _) this
     have hNe : ∀ p ∈ N, 1 ≤ p.length ∧ p.length ≤ 40 := fun p hp => by
       rw [eN] at hp
       obtain ⟨q1, q2, q3⟩ := (mem_wholesOf c.slots s1 _ _).1 hp
       have := q3.length_le
       have := hlenk.2
       exact ⟨List.length_pos_iff.2 q1, by omega⟩
     have HeU := hide eU
     have HeN := hide eN
     have hown6 : TokRow W6 (.slice aw N.length cw) N := by
       have := ((Hown.out.keep (hkk _ (by decide)) (hkk _ (by decide))).below hb6).toks.row
       rw [← eN] at this
       exact this
     have Hown' : Hid (OwnTk ok w.heap.size W6 (.slice aw N.length cw) N) := by
       have := (Hown.out.keep (hkk _ (by decide)) (hkk _ (by decide))).below hb6
       rw [← eN] at this
       exact this
     have hvIlt : ∀ k, atB vI k → k < w.heap.size := fun k ⟨a, n, cp, e, hk⟩ => by
       obtain ⟨cur, q⟩ := Hh.out.idle.own e
       rw [hk]; exact lt_blk q
     have HvI := hide hvIlt
     have hs6 : w.heap.size ≤ W6.heap.size := by have := hb6.size; omega
     have HI0 : Hid (FreeI ok w W6 W6 Y d c (L1 ++ L2) (il ++ leftJ N U 0) nt vL' vI vI) := by
       show FreeI _ _ _ _ _ _ _ _ _ _ _ _ _
       refine ⟨?_, Only.refl _ _, fun _ _ _ h => h, fun k hk => .inl hk⟩
       have e0 : il ++ leftJ N U 0 = il := by simp [leftJ]
       rw [e0]; exact hR.below hb6
     have Hfin : Hid (∀ wr vJ, FreeI ok w W6 wr Y d c (L1 ++ L2) (il ++ leftJ N U N.length) nt vL' vI vJ → RefTo ok w Y d c vL vI (L1 ++ L2) (il ++ leftOf c.slots ((L1 ++ L2).map (·.2)) k0) nt wr) := by
       show ∀ wr vJ, _ → _
       intro wr vJ hI
       have hok0 : keyOk c.slots k0 := Hh.out.tails.key (id, k0) (by simp)
       have el : leftJ N U N.length = leftOf c.slots ((L1 ++ L2).map (·.2)) k0 := by
         rw [leftOf_eq c.slots _ k0 s1 hok0]
         unfold leftJ
         rw [List.take_of_length_le (by simp), HeN.out]
         apply List.filter_congr
         intro p _
         rw [HeU.out]
         have := held_whole c.slots s1 (L1 ++ L2) hR.tails.key p
         by_cases e : heldBy c.slots ((L1 ++ L2).map (·.2)) (p, 0)
         · have e' := this.1 e
           simp only [e, e', not_true_eq_false]
         · have e' : p ∉ usedOf c.slots (toksOf (L1 ++ L2)) := fun q => e (this.2 q)
           simp only [e, e', not_false_eq_true]
       rw [← el]
       refine ⟨?_, vL', vJ, hI.ref, fun k hk => ?_, fun k hk => (hI.at' k hk).imp (fun q => q) (fun q => by omega)⟩
       · have h1 : Only (RS Y vL vI) w W1 := Only.of_below hb1 _
         have h2 : Only (RS Y vL vI) w W3 := h1.trans hO (fun k _ hk => .inl hk)
         have h3 : Only (RS Y vL vI) w W6 := h2.trans (Only.of_below hb6 (RS Y vL vI)) (fun k _ hk => hk)
         exact h3.trans hI.only (fun k _ hk => hk.elim .inl (fun ⟨a, n, cp, e, hk⟩ => .inr (.inr ⟨a, n, cp, e, hk⟩)))
       · rcases hk with hk | hk | ⟨a, n, cp, e, hk⟩
         · exact .inl (.inl hk)
         · exact .inr (by have := hlo k hk; omega)
         · rcases hI.at' k ⟨a, n, cp, e, hk⟩ with ⟨a', n', cp', e', hk'⟩ | q
           · exact .inl (.inr (.inr ⟨a', n', cp', e', hk'⟩))
           · exact .inr (by omega)
     have Hou := hide hou
     have HNe := hide hNe
     rw [← eN]
     clear eN eU hNe hvIlt hou Hus hR hkk hown6
     go_wp2
     go_loopw [9] (fun i wr => ∃ k j vJ, k + j = N.length ∧ i = .int .i64 ((k : Int) - 1) ∧ Hid (FreeI ok w W6 wr Y d c (L1 ++ L2) (il ++ leftJ N U j) nt vL' vI vJ)) (fun i _ => (intOf i + 1).toNat)
     case atStart => exact ⟨N.length, 0, vI, rfl, rfl, HI0.out⟩
     case round =>
       obtain ⟨k, j, vJ, hkj, rfl, HI⟩ := hrel
       cases k with
       | zero =>
         have hj : j = N.length := by omega
         subst hj
         go_wp2
         go_ret
         exact ⟨rfl, Hfin.out _ _ HI.out⟩
       | succ ix =>
         have ei : ((ix + 1 : Nat) : Int) - 1 = ix := by omega
         rw [ei]
         clear ei
         have hobjr := HI.out.ref.obj
         obtain ⟨vs, hvs1, hvs2⟩ := Hown'.out
         obtain ⟨gw, eaw, hgw, hgw6⟩ : ∃ gw, aw = some ⟨gw, 0, none⟩ ∧ w.heap.size ≤ gw ∧ gw < W6.heap.size := by
           obtain ⟨_, ⟨_, e⟩ | ⟨g', cap', cur', e', hg', hh', _⟩⟩ := hvs1
           · omega
           · injection e' with e' _ _
             exact ⟨g', e', hg', lt_blk hh'⟩
         subst eaw
         have hstay : ∀ b, w.heap.size ≤ b → b < W6.heap.size → wr.heap[b]? = W6.heap[b]? := fun b h1 h2 => HI.out.only.block b h2 (fun hh => by
           rcases hh with rfl | hh
           · omega
           · have := HvI.out b hh; omega)
         have cx : wr.cell? ⟨gw, ix, none⟩ = some (vs ix) := by
           rw [World.cell?_of_block (w := W6) (a := ⟨gw, ix, none⟩) (hstay gw hgw hgw6)]
           have := hvs1.cells (g := gw) rfl ix (vs ix) (by rw [List.getElem?_map, List.getElem?_range (by omega)]; rfl)
           simpa [addr_add] using this
         obtain ⟨hTx, hox⟩ := hvs2 ix (by omega)
         have hTr : TokT wr (vs ix) (N.getD ix []) := hTx.keep HI.out.keep
         obtain ⟨p, ep⟩ : ∃ p, p = N.getD ix [] := ⟨_, rfl⟩
         rw [← ep] at hTr
         have hpm : p ∈ N := by rw [ep, List.getD_eq_getElem?_getD, List.getElem?_eq_getElem (by omega)]; exact List.getElem_mem _
         have hpl := HNe.out p hpm
         have Hst : Hid (leftJ N U (j + 1) = leftJ N U j ++ (if p ∈ U then [] else [p])) := by
           show _ = _
           rw [leftJ_step N U j (by omega), ep, show N.length - 1 - j = ix by omega]
         have hll := leftJ_len N U j
         obtain ⟨ax, cxx, ex, _, _⟩ := hTr.slice
         rw [ex] at cx hTr hox
         have hru : TokRow wr (.slice au U.length cu) U := Hou.out.row.stays (fun a n cp e h0 => by
           obtain ⟨vs', hv1, _⟩ := Hou.out
           obtain ⟨_, ⟨e1, _⟩ | ⟨g', cap', cur', e', hg', hh', _⟩⟩ := hv1
           · rw [e1] at e; cases e
           · rw [e'] at e
             injection e with e _ _
             injection e with e
             rw [← e]
             exact hstay g' (by omega) (lt_blk hh')) HI.out.only.size HI.out.keep
         have hin := refin_at (.slice au U.length cu) (.slice ax p.length cxx) U p wr hru hTr (by omega)
         have Hin := hide hin
         have HTr := hide hTr
         have Hox := hide hox
         have hYr := lt_blk hobjr
         clear hin hru hTr hox hTx hvs2 hvs1 ex ep hstay
         go_wp2_with fail
         refine Hin.out.mono ?_
         rintro e W8 ⟨rfl, q8, hW8⟩
         have hb8 : Below wr.heap.size wr W8 := by rw [hW8]; exact below_drewN (Below.refl _ _) q8
         have HI8 := hide (HI.out.below hb8)
         have cx8 := (hb8.cell (p := ⟨gw, ix, none⟩) (cell_lt cx)).trans cx
         clear hW8 Hin
         by_cases hpU : p ∈ U
         · have hr := inI_in hpU
           rw [if_pos hpU, List.append_nil] at Hst
           generalize inI U p = r at hr ⊢
           clear hpU
           go_wp2
           go_roundw
           case rel => exact ⟨ix, j + 1, vJ, by omega, by go_num, by rw [Hst.out]; exact HI8.out⟩
           case measure => simp [intOf]
         · rw [inI_out hpU]
           rw [if_neg hpU] at Hst
           clear hpU
           have hobj8 := HI8.out.ref.obj
           have z2 : W8.cell? ⟨Y, 2, none⟩ = some vJ := by rw [cell_blk hobj8]; rfl
           have f2 := frozen_blk hobj8 2
           have hY8 := lt_blk hobj8
           have hneY : ¬ atB vJ Y := fun ⟨a, n, cp, e, hk⟩ => by
             obtain ⟨cur, q⟩ := HI8.out.ref.idle.own e
             rw [← hk, hobj8] at q
             injection q with q; injection q with _ q _; exact absurd q (by decide)
           have HneY := hide hneY
           have hbA : Below W8.heap.size W8 (W8.alloc (.cells #[.slice ax p.length cxx] 36)).drew := ((Below.refl _ _).alloc (Nat.le_refl _) _).drew
           have HIA := hide (HI8.out.below hbA)
           have happ : ∀ ty, ∃ v' w', (Builtin.append_ #[62, 62] ty #[vJ, .slice (some ⟨W8.heap.size, 0, none⟩) 1 1]).run Tryz.prog (W8.alloc (.cells #[.slice ax p.length cxx] 36)).drew = .ok v' w' ∧ IdleTo ok (W8.alloc (.cells #[.slice ax p.length cxx] 36)).drew vJ (il ++ leftJ N U j) p v' w' := fun ty =>
             idle_append 62 ty i2 Tryz.underlying62 hi2 hy0 hy1 hy2 HIA.out.ref.idle ((HTr.out.keep (KeepT.of_below hb8)).keep (KeepT.of_below hbA)) Hox.out rfl ⟨W8.heap.size, 0, none⟩ 1 (by have := alloc_new W8 (.cells #[.slice ax p.length cxx] 36); exact (cell_blk (w := (W8.alloc (.cells #[.slice ax p.length cxx] 36)).drew) (fr := (0, 0)) this 0).trans rfl) rfl (by rw [List.length_append]; omega)
           have Happ := hide happ
           have hixN : ix < N.length := by omega
           clear happ hneY hbA
           go_wp2_with fail
           go_region_law ((refine step_append_run (by rfl) _ _ _ (by rfl) vJ (.slice (some ⟨W8.heap.size, 0, none⟩) 1 1) (by simp [Act.eval]) (by simp [Act.eval]) Happ.out ?_; intro v' W9 hto; obtain ⟨a', n', c', ev'⟩ := hto.form; subst ev'; have z1 : W9.cell? ⟨Y, 2, none⟩ = some vJ := (World.cell?_of_block (hto.only.block Y (by simp; omega) HneY.out)).trans ((World.cell?_alloc_past _ _ _ hY8).trans z2); have z3 : W9.frozen? ⟨Y, 2, none⟩ = false := (World.frozen?_of_block (hto.only.block Y (by simp; omega) HneY.out)).trans ((World.frozen?_alloc_past _ _ _ hY8).trans f2)))
           all_goals (
             have Hnew := hide (HIA.out.push hto hpl (by rw [List.length_append]; omega))
             rw [List.append_assoc, ← Hst.out] at Hnew
             go_wp2
             go_roundw
             case rel => exact ⟨ix, j + 1, .slice a' n' c', by omega, by go_num, Hnew.out⟩
             case measure => simp [intOf])
end Go.Proofs.YtlmflighkkgikaaGreat
