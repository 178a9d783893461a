import Derived.Deep.Cut
import Derived.Test.YtlmflighkkgikaaGreatP01
import Derived.Test.YtlmflighkkgikaaGreatP07
import Derived.Test.YtlmflighkkgikaaGreatP08
import Derived.Test.YtlmflighkkgikaaGreatP15

namespace Go.Proofs.YtlmflighkkgikaaGreat
open Go.RowKit
attribute [local go_sem ↓] Go.wp_at_zero Go.wp_at_succ
theorem Tryz.info_intss2 : (Tryz.prog.info? 62).map (fun i => (i.zero, i.size, i.bytes)) = some (some (.slice none 0 0), 1, 24) := by kernel_rfl
def MarkS (m : Int) (w : World) (v : Value) (k : Nat) : Prop :=
 ∃ (g cap : Nat) (cur : Array Value), v = .slice (some ⟨g, 0, none⟩) k cap ∧ w.heap[g]? = some (.cells cur 3 (0, 0)) ∧ k ≤ cap ∧ cap ≤ maxLen ∧ cur.size = cap ∧ ∀ j, j < k → cur[j]? = some (.int .i64 m)
def MStay (m : Int) (w w' : World) : Prop :=
 ∀ (g : Nat) (cur : Array Value), w.heap[g]? = some (.cells cur 3 (0, 0)) → ∃ cur' : Array Value, w'.heap[g]? = some (.cells cur' 3 (0, 0)) ∧ cur'.size = cur.size ∧ ∀ j : Nat, cur[j]? = some (.int .i64 m) → cur'[j]? = some (.int .i64 m)
theorem MarkS.stay {m : Int} {w w' : World} {v : Value} {k : Nat} (h : MarkS m w v k) (hs : MStay m w w') : MarkS m w' v k := by
 obtain ⟨g, cap, cur, e, h1, h2, h3, h4, h5⟩ := h
 obtain ⟨cur', q1, q2, q3⟩ := hs g cur h1
 exact ⟨g, cap, cur', e, q1, h2, h3, by omega, fun j hj => q3 j (h5 j hj)⟩
theorem MarkS.mark {m : Int} {w : World} {v : Value} {k : Nat} (h : MarkS m w v k) : MarkT w v m := by
 obtain ⟨g, cap, cur, e, h1, h2, h3, h4, h5⟩ := h
 exact ⟨k, _, cap, e, h2, h3, fun _ => ⟨g, 0, cur, (0, 0), rfl, h1, fun j hj => by simpa using h5 j hj⟩⟩
theorem MStay.of_keep {m : Int} {w w' : World} (h : KeepT 3 w w') : MStay m w w' := fun _ cur hg => ⟨cur, h _ _ _ hg, rfl, fun _ hj => hj⟩
theorem MarkS.of_owns {m : Int} {w : World} {base n : Nat} {v : Value} (h : w.ownsRow base 3 1 v n ((List.range n).map fun _ => .int .i64 m)) (hn : 0 < n) : MarkS m w v n := by
 obtain ⟨_, ⟨_, e⟩ | ⟨g, cap, cur, e, hb, hg, h2, h3, h4, h5⟩⟩ := h
 · omega
 · refine ⟨g, cap, cur, e, hg, h2, h3, by omega, fun j hj => ?_⟩
   have := congrArg (fun l => l[j]?) h5
   simp [hj] at this
   simpa using this
theorem marks_succ (m : Int) (n k : Nat) : (List.range n).map (fun _ => Value.int .i64 m) ++ (List.range k).map (fun _ => Value.int .i64 m) = (List.range (n + k)).map (fun _ => Value.int .i64 m) := by
 rw [range_map_add]
theorem MarkS.new {m : Int} (w : World) (k : Nat) (cs : Array Value) (hk : cs.size = k) (hc : ∀ j, j < k → cs[j]? = some (.int .i64 m)) (hm : k ≤ maxLen) : MarkS m (w.alloc (.cells cs 3)) (.slice (some ⟨w.heap.size, 0, none⟩) k k) k :=
 ⟨w.heap.size, k, cs, rfl, alloc_new w _, Nat.le_refl _, hm, hk, hc⟩
def okM (ok : Nat → Prop) (v : Value) : Prop := ∀ a n c, v = .slice (some a) n c → 0 < n → ok a.block
theorem okM.mono {ok ok' : Nat → Prop} {v : Value} (h : okM ok v) (hm : ∀ b, ok b → ok' b) : okM ok' v := fun a n c e hn => hm _ (h a n c e hn)
def EntS (ok : Nat → Prop) (lo : Nat) (m : Int) (n : Nat) (w : World) (v : Value) : Prop :=
 ∃ (g : Nat) (s0 s1 s2 s3 : Value), v = .slice (some ⟨g, 0, none⟩) 4 4 ∧ w.heap[g]? = some (.cells #[s0, s1, s2, s3] 36 (0, 0)) ∧ MarkT w s0 m ∧ MarkS m w s1 (n + 1) ∧ MarkS m w s2 (n + 2) ∧ MarkS m w s3 (n + 6) ∧ (s0 = .slice none 0 0 ∨ MarkS m w s0 n) ∧ okM ok s0 ∧ okM ok s1 ∧ okM ok s2 ∧ okM ok s3 ∧ lo ≤ g
theorem EntS.stay {ok : Nat → Prop} {lo : Nat} {m : Int} {n : Nat} {w w' : World} {v : Value} (h : EntS ok lo m n w v) (hs : MStay m w w') (hk : KeepT 36 w w') : EntS ok lo m n w' v := by
 obtain ⟨g, s0, s1, s2, s3, e, h0, _, h1, h2, h3, h4, hoks⟩ := h
 have h4' : s0 = .slice none 0 0 ∨ MarkS m w' s0 n := h4.imp (fun h => h) (fun h => h.stay hs)
 refine ⟨g, s0, s1, s2, s3, e, hk _ _ _ h0, ?_, h1.stay hs, h2.stay hs, h3.stay hs, h4', hoks⟩
 rcases h4' with rfl | h
 · exact ⟨0, none, 0, rfl, Nat.le_refl _, by simp [maxLen], fun h => absurd h (by omega)⟩
 · exact h.mark
theorem EntS.entry {ok : Nat → Prop} {lo : Nat} {m : Int} {n : Nat} {w : World} {v : Value} (h : EntS ok lo m n w v) : EntryI w v m := by
 obtain ⟨g, s0, s1, s2, s3, e, h0, q, h1, h2, h3, _⟩ := h
 refine ⟨g, fun k => if k = 0 then s0 else if k = 1 then s1 else if k = 2 then s2 else s3, (0, 0), e, h0, fun k hk => ?_⟩
 match k, hk with
 | 0, _ => exact q
 | 1, _ => exact h1.mark
 | 2, _ => exact h2.mark
 | 3, _ => exact h3.mark
def KOk (w0 : World) (l : Value) (b : Nat) : Prop := l.ownBlock = some b ∨ w0.heap.size ≤ b
def KSpec (w0 : World) (B N n : Nat) (m : Int) (l vl : Value) (es : Nat → Value) (i : Nat) (v : Value) (w : World) : Prop :=
 match i with
 | 0 | 1 | 2 | 3 | 27 | 28 => v = .pointer (some ⟨B, 0, none⟩)
 | 4 => v = vl
 | 5 | 6 | 10 | 15 => v = l
 | 7 | 11 | 12 | 16 | 17 | 18 | 19 | 20 | 21 => v = .int .i64 m
 | 8 => MarkS m w v 1
 | 13 => MarkS m w v 2
 | 22 => MarkS m w v 6
 | 9 => MarkS m w v (n + 1) ∧ okM (KOk w0 l) v
 | 14 => MarkS m w v (n + 2) ∧ okM (KOk w0 l) v
 | 23 => MarkS m w v (n + 6) ∧ okM (KOk w0 l) v
 | 24 => EntS (KOk w0 l) w0.heap.size m n w v
 | 25 => ∃ g e, w0.heap.size ≤ g ∧ v = .slice (some ⟨g, 0, none⟩) 1 1 ∧ w.heap[g]? = some (.cells #[e] 62 (0, 0)) ∧ EntS (KOk w0 l) w0.heap.size m n w e
 | 26 => ∃ g cap e, v = .slice (some ⟨g, 0, none⟩) (N + 1) cap ∧ w.ownsRow 0 62 1 v (N + 1) ((List.range N).map es ++ [e]) ∧ EntS (KOk w0 l) w0.heap.size m n w e ∧ (vl.ownBlock = some g ∨ w0.heap.size ≤ g)
 | _ => True
structure KInv (w0 : World) (B N n : Nat) (m : Int) (l vl : Value) (es : Nat → Value) (w : World) : Prop where
 only : Only (fun k => k = B ∨ vl.ownBlock = some k ∨ l.ownBlock = some k) w0 w
 book : w.heap[B]? = some (.cells #[vl] 35 (0, 0))
 lrow : w.ownsRow 0 3 1 l n ((List.range n).map fun _ => .int .i64 m)
 vlrow : w.ownsRow 0 62 1 vl N ((List.range N).map es)
def KEnd (w0 : World) (B N n : Nat) (m : Int) (l vl : Value) (es : Nat → Value) (w : World) : Prop :=
 Only (fun k => k = B ∨ vl.ownBlock = some k ∨ l.ownBlock = some k) w0 w ∧ ∃ g cap e, w.heap[B]? = some (.cells #[.slice (some ⟨g, 0, none⟩) (N + 1) cap] 35 (0, 0)) ∧ w.ownsRow 0 62 1 (.slice (some ⟨g, 0, none⟩) (N + 1) cap) (N + 1) ((List.range N).map es ++ [e]) ∧ EntS (KOk w0 l) w0.heap.size m n w e ∧ (vl.ownBlock = some g ∨ w0.heap.size ≤ g)
theorem KSpec.stay {w0 : World} {B N n : Nat} {m : Int} {l vl : Value} {es : Nat → Value} {w w' : World} (hs : MStay m w w') (hk : KeepT 36 w w') (hT : KeepT 62 w w') (j : Nat) (u : Value) (h : KSpec w0 B N n m l vl es j u w) : KSpec w0 B N n m l vl es j u w' := by
 unfold KSpec at h ⊢
 split <;> simp only [] at h ⊢ <;> first | exact h | exact MarkS.stay h hs | exact ⟨MarkS.stay h.1 hs, h.2⟩ | exact EntS.stay h hs hk | skip
 · obtain ⟨g, e, h1, h2, h3, h4⟩ := h
   exact ⟨g, e, h1, h2, hT _ _ _ h3, h4.stay hs hk⟩
 · obtain ⟨g, cap, e, h1, h2, h3, h4⟩ := h
   refine ⟨g, cap, e, h1, ?_, h3.stay hs hk, h4⟩
   obtain ⟨q1, q2 | ⟨g', cap', cur', e', hg', hh', rest⟩⟩ := h2
   · exact ⟨q1, .inl q2⟩
   · exact ⟨q1, .inr ⟨g', cap', cur', e', hg', hT _ _ _ hh', rest⟩⟩
section
variable {w0 w w' : World} {B N n : Nat} {m : Int} {l vl : Value} {es : Nat → Value}
theorem KInv.alloc (h : KInv w0 B N n m l vl es w) (o : Obj) : KInv w0 B N n m l vl es (w.alloc o) :=
 ⟨h.only.alloc o, by rw [alloc_old _ _ _ (lt_blk h.book)]; exact h.book, h.lrow.alloc o, h.vlrow.alloc o⟩
theorem KSpec.alloc (o : Obj) (j : Nat) (u : Value) (h : KSpec w0 B N n m l vl es j u w) : KSpec w0 B N n m l vl es j u (w.alloc o) :=
 KSpec.stay (MStay.of_keep (KeepT.alloc _ _)) (KeepT.alloc _ _) (KeepT.alloc _ _) j u h
theorem MarkS.news {x : Value} {k : Nat} (h : MarkS m w x k) : ∃ g cap, x = .slice (some ⟨g, 0, none⟩) k cap ∧ ∀ (j : Nat) (u : Value), ((List.range k).map fun _ => Value.int .i64 m)[j]? = some u → w.cell? ((⟨g, 0, none⟩ : Addr).add j) = some u := by
 obtain ⟨g, cap, cur, e, h1, h2, h3, h4, h5⟩ := h
 refine ⟨g, cap, e, fun j u hj => ?_⟩
 have hlt : j < k := by
   have := (List.getElem?_eq_some_iff.1 hj).1
   simpa using this
 have e1 : (⟨g, 0, none⟩ : Addr).add j = ⟨g, j, none⟩ := by unfold Addr.add; split <;> simp_all
 rw [e1, cell_blk h1, h5 j hlt]
 simpa [hlt] using hj
theorem KInv.mark (h : KInv w0 B N n m l vl es w) : l = .slice none 0 0 ∨ MarkS m w l n := by
 obtain ⟨_, ⟨e, _⟩ | ⟨g, cap, cur, e, hb, hg, h2, h3, h4, h5⟩⟩ := h.lrow
 · exact .inl e
 · refine .inr ⟨g, cap, cur, e, hg, h2, h3, by omega, fun j hj => ?_⟩
   have := congrArg (fun l => l[j]?) h5
   simp [hj] at this
   simpa using this
theorem markT_of (h : l = .slice none 0 0 ∨ MarkS m w l n) : MarkT w l m := by
 rcases h with rfl | h
 · exact ⟨0, none, 0, rfl, Nat.le_refl _, by simp [maxLen], fun h => absurd h (by omega)⟩
 · exact h.mark
theorem KSpec.stay26 (hs : MStay m w w') (hk : KeepT 36 w w') (hT : ∀ (g : Nat) (cur : Array Value) (fr : Nat × Nat), w0.heap.size ≤ g → w.heap[g]? = some (.cells cur 62 fr) → w'.heap[g]? = some (.cells cur 62 fr)) (j : Nat) (u : Value) (hj : j ≠ 26) (h : KSpec w0 B N n m l vl es j u w) : KSpec w0 B N n m l vl es j u w' := by
 unfold KSpec at h ⊢
 split <;> simp only [] at h ⊢ <;> first | exact h | exact MarkS.stay h hs | exact ⟨MarkS.stay h.1 hs, h.2⟩ | exact EntS.stay h hs hk | skip
 · obtain ⟨g, e, h1, h2, h3, h4⟩ := h
   exact ⟨g, e, h1, h2, hT _ _ _ h1 h3, h4.stay hs hk⟩
 · exact absurd rfl hj
theorem keep_entry {P : Program} (i1 : TypeInfo) (hi : P.info? 62 = some i1) (hz0 : i1.zero = some (.slice none 0 0)) (hz1 : i1.size = 1) (hz2 : i1.bytes = 24) (ht : P.underlying 33 = some (.slice 62)) (ty : TypeId)
   (h : KInv w0 B N n m l vl es w) (hvl : ∀ k, vl.ownBlock = some k → k < w0.heap.size) {g : Nat} {e : Value} (hg : w.heap[g]? = some (.cells #[e] 62 (0, 0))) (he : EntS (KOk w0 l) w0.heap.size m n w e) (hN : N ≤ 5000000000000) :
   ∃ g' cap' w', (Builtin.append_ #[33, 33] ty #[vl, .slice (some ⟨g, 0, none⟩) 1 1]).run P w = .ok (.slice (some ⟨g', 0, none⟩) (N + 1) cap') w' ∧ KInv w0 B N n m l vl es w' ∧
     KSpec w0 B N n m l vl es 26 (.slice (some ⟨g', 0, none⟩) (N + 1) cap') w' ∧ ∀ j u, j ≠ 26 → KSpec w0 B N n m l vl es j u w → KSpec w0 B N n m l vl es j u w' := by
 have hone : ∀ u ∈ [e], u.oneCell' = true := by
   obtain ⟨_, _, _, _, _, rfl, _⟩ := he
   intro u hu; simp at hu; subst hu; rfl
 have hnews : ∀ (j : Nat) (u : Value), [e][j]? = some u → w.cell? ((⟨g, 0, none⟩ : Addr).add j) = some u := by
   intro j u hj
   match j, hj with
   | 0, hj => simp at hj; subst hj; simp [Addr.add, cell_blk hg]
 obtain ⟨g', cap', w', hr, h1, h2, h3, h4, h5⟩ := append_stays w 33 ty 0 62 i1 _ 24 ht hi hz0 hz1 hz2 rfl vl N _ h.vlrow ⟨g, 0, none⟩ 1 1 [e] rfl hnews hone (by omega) (by unfold maxLen; omega) (by omega) (by omega)
 have hkeep : ∀ e : TypeId, e ≠ 62 → KeepT e w w' := fun e he => KeepT.of_grown h.vlrow h2 he
 have hsz := h.only.size
 have hms : MStay m w w' := MStay.of_keep (hkeep _ (by decide))
 have hT : ∀ (g : Nat) (cur : Array Value) (fr : Nat × Nat), w0.heap.size ≤ g → w.heap[g]? = some (.cells cur 62 fr) → w'.heap[g]? = some (.cells cur 62 fr) := fun b cur fr hb hh => by
   rw [h2.block b (lt_blk hh) (fun e => by have := hvl b e.symm; omega)]; exact hh
 refine ⟨g', cap', w', hr, ⟨h.only.grown h2 (fun k hk _ => .inr (.inl hk)), hkeep _ (by decide) _ _ _ h.book, ?_, h4⟩, ⟨g', cap', e, rfl, h1, he.stay hms (hkeep _ (by decide)), h3.imp (fun h => h) (fun h => by omega)⟩, fun j u hj hh => KSpec.stay26 hms (hkeep _ (by decide)) hT j u hj hh⟩
 obtain ⟨q1, q2 | ⟨b, cap, cur, e', hb, hh, rest⟩⟩ := h.lrow
 · exact ⟨q1, .inl q2⟩
 · exact ⟨q1, .inr ⟨b, cap, cur, e', hb, hkeep _ (by decide) _ _ _ hh, rest⟩⟩
theorem keep_append {P : Program} (i0 : TypeInfo) (hi : P.info? 3 = some i0) (hz0 : i0.zero = some (.int .i64 0)) (hz1 : i0.size = 1) (hz2 : i0.bytes = 8) (ht : P.underlying 36 = some (.slice 3)) (ty : TypeId)
   (h : KInv w0 B N n m l vl es w) {x : Value} {k : Nat} (hx : MarkS m w x k) (hk : 1 ≤ k) (hk6 : k ≤ 6) (hn : n ≤ 1000000) :
   ∃ v w', (Builtin.append_ #[36, 36] ty #[l, x]).run P w = .ok v w' ∧ KInv w0 B N n m l vl es w' ∧ (MarkS m w' v (n + k) ∧ okM (KOk w0 l) v) ∧ MStay m w w' ∧ KeepT 36 w w' ∧ KeepT 62 w w' := by
 obtain ⟨g, cap, rfl, hnews⟩ := hx.news
 obtain ⟨g', cap', w', hr, h1, h2, h3, h4, h5⟩ := append_stays w 36 ty 0 3 i0 _ 8 ht hi hz0 hz1 hz2 rfl l n _ h.lrow ⟨g, 0, none⟩ k cap _ (by simp) hnews (ints_one _ _) (by omega) (by unfold maxLen; omega) (by omega) (Nat.zero_le _)
 rw [marks_succ] at h1
 have hkeep : ∀ e : TypeId, e ≠ 3 → KeepT e w w' := fun e he => KeepT.of_grown h.lrow h2 he
 have hsz := h.only.size
 have hms : MStay m w w' := by
   intro b cur hb
   by_cases hbl : l.ownBlock = some b
   · obtain ⟨cur', q1, q2, q3⟩ := h5 b cur hbl hb
     refine ⟨cur', q1, q2, fun j hj => ?_⟩
     rcases q3 j with q | ⟨u, hu, q⟩
     · rw [q]; exact hj
     · rw [q]
       simp at hu
       rw [hu.2]
   · exact ⟨cur, by rw [h2.block b (lt_blk hb) (fun e => hbl e.symm)]; exact hb, rfl, fun _ hj => hj⟩
 refine ⟨_, w', hr, ⟨h.only.grown h2 (fun k hk hlt => .inr (.inr hk)), hkeep _ (by decide) _ _ _ h.book, h4, ?_⟩, ⟨MarkS.of_owns h1 (by omega), fun a n c e _ => ?_⟩, hms, hkeep _ (by decide), hkeep _ (by decide)⟩
 · obtain ⟨q1, q2 | ⟨b, cap, cur, e, hb, hh, rest⟩⟩ := h.vlrow
   · exact ⟨q1, .inl q2⟩
   · exact ⟨q1, .inr ⟨b, cap, cur, e, hb, hkeep _ (by decide) _ _ _ hh, rest⟩⟩
 · cases e
   exact h3.imp (fun h => h) (fun h => Nat.le_trans hsz h)
end
theorem owns_cell' {w : World} {base : Nat} {e : TypeId} {size : Nat} {v : Value} {n : Nat} {xs : List Value} (h : w.ownsRow base e size v n xs) {g : Nat} (hg : v.ownBlock = some g) {j : Nat} {u : Value} (hj : xs[j]? = some u) : w.cell? ⟨g, j, none⟩ = some u := by
 obtain ⟨_, ⟨e1, _⟩ | ⟨g', cap, cur, e1, _, hh, _, _, _, ht⟩⟩ := h
 · rw [e1] at hg; cases hg
 · rw [e1] at hg
   injection hg with hg
   subst hg
   rw [cell_blk hh]
   rw [← ht] at hj
   have : j < n * size := by
     have := (List.getElem?_eq_some_iff.1 hj).1
     simp at this
     omega
   rw [List.getElem?_take_of_lt this] at hj
   simpa using hj
def EntOk (ok : Nat → Prop) (w : World) (e : Value) : Prop := ∀ b cur fr, e = .slice (some ⟨b, 0, none⟩) 4 4 → w.heap[b]? = some (.cells cur 36 fr) → ∀ (k : Nat) u, k < 4 → cur[k]? = some u → okM ok u
def BookOk (ok : Nat → Prop) (w : World) (N : Nat) (vl : Value) : Prop := ∀ g i e, vl.ownBlock = some g → i < N → w.cell? ⟨g, i, none⟩ = some e → EntOk ok w e
theorem EntOk.keep {ok : Nat → Prop} {w w' : World} {e : Value} {m : Int} (h : EntOk ok w e) (hE : EntryI w e m) (hk : KeepT 36 w w') : EntOk ok w' e := fun b cur fr he hh k u hk4 hu => by
 obtain ⟨b', s, fr', e', hb', _⟩ := hE
 rw [he] at e'
 injection e' with e' _ _
 injection e' with e'
 injection e' with e' _ _
 subst e'
 have q := hk _ _ _ hb'
 rw [q] at hh
 injection hh with hh
 injection hh with hh _ _
 subst hh
 exact h b _ fr' he hb' k u hk4 hu
theorem MarkT.stays {ok : Nat → Prop} {w w' : World} {v : Value} {m : Int} (h : MarkT w v m) (ho : okM ok v) (hk : ∀ b cur fr, ok b → w.heap[b]? = some (.cells cur 3 fr) → w'.heap[b]? = some (.cells cur 3 fr)) : MarkT w' v m := by
 obtain ⟨n, a, c, rfl, h1, h2, h3⟩ := h
 refine ⟨n, a, c, rfl, h1, h2, fun hn => ?_⟩
 obtain ⟨b, off, cur, fr, rfl, hb, hc⟩ := h3 hn
 exact ⟨b, off, cur, fr, rfl, hk b cur fr (ho _ _ _ rfl hn) hb, hc⟩
theorem EntryI.stays {ok : Nat → Prop} {w w' : World} {e : Value} {m : Int} (h : EntryI w e m) (ho : EntOk ok w e) (h1 : KeepT 36 w w') (hk : ∀ b cur fr, ok b → w.heap[b]? = some (.cells cur 3 fr) → w'.heap[b]? = some (.cells cur 3 fr)) : EntryI w' e m := by
 obtain ⟨b, s, fr, he, hb, hs⟩ := h
 refine ⟨b, s, fr, he, h1 _ _ _ hb, fun k hk4 => (hs k hk4).stays (ho b _ fr he hb k (s k) hk4 ?_) hk⟩
 match k, hk4 with
 | 0, _ => rfl
 | 1, _ => rfl
 | 2, _ => rfl
 | 3, _ => rfl
theorem EntryI.okOld {w : World} {e : Value} {m : Int} (h : EntryI w e m) : EntOk (fun b => b < w.heap.size) w e := fun b cur fr he hh k u hk4 hu => by
 obtain ⟨b', s, fr', e', hb', hs⟩ := h
 rw [he] at e'
 injection e' with e' _ _
 injection e' with e'
 injection e' with e' _ _
 subst e'
 rw [hb'] at hh
 injection hh with hh
 injection hh with hh _ _
 subst hh
 have hu' : u = s k := by
   match k, hk4, hu with
   | 0, _, hu => simp at hu; exact hu.symm
   | 1, _, hu => simp at hu; exact hu.symm
   | 2, _, hu => simp at hu; exact hu.symm
   | 3, _, hu => simp at hu; exact hu.symm
 subst hu'
 intro a n c ea hn
 obtain ⟨n', a', c', e2, _, _, h3⟩ := hs k hk4
 rw [ea] at e2
 injection e2 with e2 e3 e4
 subst e2 e3 e4
 obtain ⟨b2, off, cur, fr2, e5, hb2, _⟩ := h3 hn
 cases e5
 exact lt_blk hb2
theorem EntS.okIs {ok : Nat → Prop} {lo : Nat} {m : Int} {n : Nat} {w : World} {e : Value} (h : EntS ok lo m n w e) : EntOk ok w e := fun b cur fr he hh k u hk4 hu => by
 obtain ⟨g, s0, s1, s2, s3, e', h0, _, _, _, _, _, o0, o1, o2, o3, _⟩ := h
 rw [he] at e'
 injection e' with e' _ _
 injection e' with e'
 injection e' with e' _ _
 subst e'
 rw [h0] at hh
 injection hh with hh
 injection hh with hh _ _
 subst hh
 match k, hk4, hu with
 | 0, _, hu => simp at hu; subst hu; exact o0
 | 1, _, hu => simp at hu; subst hu; exact o1
 | 2, _, hu => simp at hu; subst hu; exact o2
 | 3, _, hu => simp at hu; subst hu; exact o3
def BookE (w : World) (n : Nat) (vl : Value) (b : Nat) : Prop := ∃ g i, vl.ownBlock = some g ∧ i < n ∧ w.cell? ⟨g, i, none⟩ = some (.slice (some ⟨b, 0, none⟩) 4 4)
set_option maxRecDepth 100000 in
set_option maxHeartbeats 4000000 in
theorem keep_any (B N n : Nat) (l vl : Value) (g : Nat → Int) (w0 : World) (h : BookI w0 B N vl) (hok : BookOk (fun b => l.ownBlock ≠ some b) w0 N vl) (hl : w0.ownsRow 0 3 1 l n ((List.range n).map fun j => .int .i64 (g j))) (hN : N ≤ 5000000000000) (hn : n ≤ 1000000) :
   Calls Tryz.prog 50 #[.pointer (some ⟨B, 0, none⟩), l] w0 fun e w' =>
     e = .returned (.tuple #[]) ∧ Only (fun k => k = B ∨ vl.ownBlock = some k ∨ l.ownBlock = some k) w0 w' ∧ ∃ vl', BookI w' B (N + 1) vl' ∧ (∀ k, vl'.ownBlock = some k → vl.ownBlock = some k ∨ w0.heap.size ≤ k) ∧
       (∀ ok, BookOk ok w0 N vl → (∀ b, KOk w0 l b → ok b) → BookOk ok w' (N + 1) vl') ∧ ∀ b, BookE w' (N + 1) vl' b → BookE w0 N vl b ∨ w0.heap.size ≤ b := by
 obtain ⟨i0, hi, hz0, hz1, hz2⟩ := info_parts Tryz.info_int
 obtain ⟨i1, hi1, hy0, hy1, hy2⟩ := info_parts Tryz.info_intss2
 obtain ⟨hbk, es, hrow, hes⟩ := h
 have hBl := lt_blk hbk
 have b0 : w0.cell? ⟨B, 0, none⟩ = some vl := by rw [cell_blk hbk]; rfl
 have hlty : ∀ k, l.ownBlock = some k → ∃ cur fr, w0.heap[k]? = some (.cells cur 3 fr) := fun k hk => by
   obtain ⟨_, ⟨e1, _⟩ | ⟨g', cap, cur, e1, _, hh, _⟩⟩ := hl
   · rw [e1] at hk; cases hk
   · rw [e1] at hk; injection hk with hk; subst hk; exact ⟨_, _, hh⟩
 have hvty : ∀ k, vl.ownBlock = some k → ∃ cur fr, w0.heap[k]? = some (.cells cur 62 fr) := fun k hk => by
   obtain ⟨_, ⟨e1, _⟩ | ⟨g', cap, cur, e1, _, hh, _⟩⟩ := hrow
   · rw [e1] at hk; cases hk
   · rw [e1] at hk; injection hk with hk; subst hk; exact ⟨_, _, hh⟩
 obtain ⟨av, cv, ev⟩ : ∃ a c, vl = .slice a N c := by
   obtain ⟨_, ⟨rfl, e⟩ | ⟨g, cap, cur, rfl, _⟩⟩ := hrow
   · exact ⟨none, 0, by rw [e]⟩
   · exact ⟨_, cap, rfl⟩
 have Hlty := hide hlty
 have Hvty := hide hvty
 have Hok := hide hok
 clear hlty hvty hok
 obtain ⟨al, cl, el⟩ : ∃ a c, l = .slice a n c := by
   obtain ⟨_, ⟨rfl, e⟩ | ⟨g, cap, cur, rfl, _⟩⟩ := hl
   · exact ⟨none, 0, by rw [e]⟩
   · exact ⟨_, cap, rfl⟩
 subst el
 obtain ⟨m, em⟩ : ∃ m : Int, m = -700000000 - (N : Int) := ⟨_, rfl⟩
 have hmk := fun w => mark_any (N : Int) w (by omega) (by omega)
 rw [← em] at hmk
 have Hmk := hide hmk
 have Hm := hide em
 have Hev := hide ev
 rw [ev] at b0
 have Hrow := hide hrow
 have Hes := hide hes
 clear hmk em hrow hes ev
 go_enter Tryz.func50, Tryz.ntmps50
 go_wp2_with fail
 refine Calls_use (Hmk.out _) ?_
 clear Hmk
 go_wp2
 go_loopw [5] (fun i wr => ∃ k : Nat, k ≤ n ∧ i = .int .i64 k ∧ wr.ownsRow 0 3 1 (.slice al n cl) n ((List.range n).map fun j => .int .i64 (if j < k then m else g j)) ∧ Only (fun b => (Value.slice al n cl).ownBlock = some b) w0 wr) (fun i _ => n - (intOf i).toNat)
 case atStart => exact ⟨0, Nat.zero_le _, rfl, by simpa using hl, Only.refl _ _⟩
 case round =>
   obtain ⟨k, hk, rfl, hrow, hbel⟩ := hrel
   by_cases hlt : k < n
   · rcases OwnI.of_owns hrow with ⟨_, h0⟩ | ⟨b, cap, e, ho⟩
     · omega
     · injection e with e1 _ e3
       subst e1 e3
       have c0 := ho.cell k hlt
       have f0 := ho.frozen k
       have hset := (ho.set k m).owns
       have e9 : (List.range n).map (fun j => Value.int .i64 (if j = k then m else if j < k then m else g j)) = (List.range n).map (fun j => Value.int .i64 (if j < k + 1 then m else g j)) := by
         apply List.map_congr_left
         intro j _
         by_cases h1 : j = k
         · rw [if_pos h1, if_pos (by omega)]
         · rw [if_neg h1]
           by_cases h2 : j < k
           · rw [if_pos h2, if_pos (by omega)]
           · rw [if_neg h2, if_neg (by omega)]
       rw [e9] at hset
       have Hset := hide hset
       clear hset e9 ho hrow
       go_wp2
       go_roundw
       case rel => exact ⟨k + 1, by omega, by go_num, Hset.out, hbel.setCell (p := ⟨b, k, none⟩) (fun _ => rfl) _⟩
       case measure => simp [intOf]; omega
   · have e9 : (List.range n).map (fun j => Value.int .i64 (if j < k then m else g j)) = (List.range n).map (fun _ => Value.int .i64 m) := by
       apply List.map_congr_left
       intro j hj
       rw [if_pos (by have := List.mem_range.1 hj; omega)]
     rw [e9] at hrow
     have hbkr := (hbel.block B hBl (fun hh => by
       obtain ⟨cur, fr, q⟩ := Hlty.out B hh
       rw [hbk] at q; injection q with q; injection q with _ q _; exact absurd q (by decide))).trans hbk
     have hvr : wr.ownsRow 0 62 1 vl N ((List.range N).map es) := by
       obtain ⟨q1, q2 | ⟨g', cap, cur, e', hg, hh, rest⟩⟩ := Hrow.out
       · exact ⟨q1, .inl q2⟩
       · refine ⟨q1, .inr ⟨g', cap, cur, e', hg, (hbel.block g' (lt_blk hh) (fun hx => ?_)).trans hh, rest⟩⟩
         obtain ⟨cur', fr', q⟩ := Hlty.out g' hx
         rw [hh] at q; injection q with q; injection q with _ q _; exact absurd q (by decide)
     have hI0 : KInv w0 B N n m (.slice al n cl) vl es wr := ⟨hbel.mono (fun k _ hk => .inr (.inr hk)), hbkr, hrow, hvr⟩
     obtain ⟨W1, rfl⟩ : ∃ W1, W1 = wr := ⟨_, rfl⟩
     clear hrow e9 hbkr b0
     go_wp2_with fail
     refine wp_region_specs (z := 29) (Spec := KSpec w0 B N n m (.slice al n cl) vl es) (I := fun b w => match b with | true => KEnd w0 B N n m (.slice al n cl) vl es w | false => KInv w0 B N n m (.slice al n cl) vl es w) (by kernel_rfl) (by kernel_rfl) (by decide +kernel) ?step ?fin ?init
     case init => exact ⟨hI0.only.drewN 1, hI0.book, hI0.lrow, hI0.vlrow⟩
     case fin =>
       intro a w hF hE hS
       obtain ⟨hO, g9, c9, e9, hb9, hown9, hent9, hat9⟩ : KEnd w0 B N n m (.slice al n cl) vl es w := hE
       have kp : ∀ e : TypeId, e ≠ 35 → e ≠ 62 → e ≠ 3 → KeepT e w0 w := fun e h1 h2 h3 => hO.keep (fun k cur fr hk hh => by
         rcases hk with rfl | hk | hk
         · rw [hbk] at hh; injection hh with hh; injection hh with _ q _; exact h1 q.symm
         · obtain ⟨cur', fr', q⟩ := Hvty.out k hk
           rw [q] at hh; injection hh with hh; injection hh with _ q _; exact h2 q.symm
         · obtain ⟨cur', fr', q⟩ := Hlty.out k hk
           rw [q] at hh; injection hh with hh; injection hh with _ q _; exact h3 q.symm)
       have ki : ∀ b cur fr, (Value.slice al n cl).ownBlock ≠ some b → w0.heap[b]? = some (.cells cur 3 fr) → w.heap[b]? = some (.cells cur 3 fr) := fun b cur fr hb q => by
         rw [hO.block b (lt_blk q) (fun hh => by
           rcases hh with rfl | hh | hh
           · rw [hbk] at q; injection q with q; injection q with _ q _; exact absurd q (by decide)
           · obtain ⟨cur', fr', q'⟩ := Hvty.out b hh
             rw [q'] at q; injection q with q; injection q with _ q _; exact absurd q (by decide)
           · exact hb hh)]
         exact q
       have hcell : ∀ i, i < N → ∃ gv, vl.ownBlock = some gv ∧ w0.cell? ⟨gv, i, none⟩ = some (es i) := fun i hi => by
         obtain ⟨gv, hgv⟩ : ∃ gv, vl.ownBlock = some gv := by
           obtain ⟨_, ⟨_, e⟩ | ⟨gv, _, _, e, _⟩⟩ := Hrow.out
           · omega
           · exact ⟨gv, by rw [e]; rfl⟩
         exact ⟨gv, hgv, owns_cell' Hrow.out hgv (by simp [hi])⟩
       go_wp2_with fail
       refine bodyPost_end (v := .tuple #[]) (by simp [results, Tryz.results50]) hF.defers ⟨rfl, hO, _, ⟨hb9, fun i => if i = N then e9 else es i, ?_, fun i hi => ?_⟩, fun k hk => ?_, fun ok hok1 hok2 => ?_, fun b ⟨gv, i, hg, hi, hc⟩ => ?_⟩
       · rw [range_map_succ, if_pos rfl]
         have e8 : (List.range N).map (fun i => if i = N then e9 else es i) = (List.range N).map es := by
           apply List.map_congr_left
           intro i hi
           rw [if_neg (by have := List.mem_range.1 hi; omega)]
         rw [e8]; exact hown9
       · by_cases e : i = N
         · subst e
           simp only [if_true]
           rw [← Hm.out]; exact hent9.entry
         · simp only [if_neg e]
           obtain ⟨gv, hgv, hcv⟩ := hcell i (by omega)
           exact (Hes.out i (by omega)).stays (Hok.out gv i _ hgv (by omega) hcv) (kp _ (by decide) (by decide) (by decide)) ki
       · simp only [Value.ownBlock] at hk
         injection hk with hk
         subst hk
         exact hat9
       · intro gv i e' hg hi hc
         by_cases e : i = N
         · subst e
           have q := owns_cell' hown9 hg (j := i) (u := e9) (by rw [List.getElem?_append_right (by simp)]; simp)
           rw [q] at hc
           injection hc with hc
           subst hc
           intro b cur fr he hh k u hk4 hu
           exact (hent9.okIs b cur fr he hh k u hk4 hu).mono hok2
         · have q := owns_cell' hown9 hg (j := i) (u := es i) (by rw [List.getElem?_append_left (by simp; omega)]; simp [show i < N by omega])
           rw [q] at hc
           injection hc with hc
           subst hc
           obtain ⟨gv', hgv, hcv⟩ := hcell i (by omega)
           exact (hok1 gv' i _ hgv (by omega) hcv).keep (Hes.out i (by omega)) (kp _ (by decide) (by decide) (by decide))
       · by_cases e : i = N
         · have q := owns_cell' hown9 hg (j := i) (u := e9) (by rw [e, List.getElem?_append_right (by simp)]; simp)
           rw [q] at hc
           injection hc with hc
           obtain ⟨gE, s0, s1, s2, s3, e', _, _, _, _, _, _, _, _, _, _, hlo⟩ := hent9
           rw [e'] at hc
           injection hc with hc _ _
           injection hc with hc
           injection hc with hc _ _
           exact .inr (by omega)
         · have q := owns_cell' hown9 hg (j := i) (u := es i) (by rw [List.getElem?_append_left (by simp; omega)]; simp [show i < N by omega])
           rw [q] at hc
           obtain ⟨gv', hgv, hcv⟩ := hcell i (by omega)
           exact .inl ⟨gv', i, hgv, by omega, hcv.trans hc⟩
     case step =>
       intro i o ho a w hF hI hdep K hK
       have hI' : KInv w0 B N n m (.slice al n cl) vl es w := hI
       have hi30 : i < 30 := by have := (Array.getElem?_eq_some_iff.1 ho).1; simpa using this
       have e0 : a.eval (.tmp 0) = .pointer (some ⟨B, 0, none⟩) := (frame_eval hF (by kernel_rfl)).trans rfl
       have e1 : a.eval (.tmp 1) = .slice al n cl := (frame_eval hF (by kernel_rfl)).trans rfl
       have e4 : a.eval (.tmp 4) = .int .i64 m := (frame_eval hF (by kernel_rfl)).trans rfl
       match i, hi30 with
       | 0, _ => exact spec_run (d := some 22) (op := .move (.tmp 0)) (ty := 32) (v := .pointer (some ⟨B, 0, none⟩)) (w' := w) ho (by kernel_rfl) (fun pos after => by simp [execOp, e0]) (hK _ _ hI (dst_ne ho (d := 22) (by kernel_rfl)) rfl (fun _ _ _ h => h))
       | 1, _ => exact spec_run (d := some 23) (op := .move (.tmp 0)) (ty := 32) (v := .pointer (some ⟨B, 0, none⟩)) (w' := w) ho (by kernel_rfl) (fun pos after => by simp [execOp, e0]) (hK _ _ hI (dst_ne ho (d := 23) (by kernel_rfl)) rfl (fun _ _ _ h => h))
       | 2, _ =>
         have q : a.eval (.tmp 23) = .pointer (some ⟨B, 0, none⟩) := dep_at ho hdep (j := 1) (dj := 23) (by kernel_rfl) (by kernel_rfl)
         have q' : a.tmps[23]?.getD undef = .pointer (some ⟨B, 0, none⟩) := by have h := q; simpa [Act.eval] using h
         exact spec_run (d := some 24) (op := .nilCheck (.tmp 23)) (ty := 0) (v := .pointer (some ⟨B, 0, none⟩)) (w' := w) ho (by kernel_rfl) (fun pos after => by simp [execOp, q', go_sem]) (hK _ _ hI (dst_ne ho (d := 24) (by kernel_rfl)) rfl (fun _ _ _ h => h))
       | 3, _ =>
         have q : a.eval (.tmp 24) = .pointer (some ⟨B, 0, none⟩) := dep_at ho hdep (j := 2) (dj := 24) (by kernel_rfl) (by kernel_rfl)
         have q' : a.tmps[24]?.getD undef = .pointer (some ⟨B, 0, none⟩) := by have h := q; simpa [Act.eval] using h
         exact spec_run (d := some 25) (op := .fieldAddr 35 (.tmp 24) 0) (ty := 0) (v := .pointer (some ⟨B, 0, none⟩)) (w' := w) ho (by kernel_rfl) (fun pos after => by simp [execOp, q', go_sem]) (hK _ _ hI (dst_ne ho (d := 25) (by kernel_rfl)) rfl (fun _ _ _ h => h))
       | 4, _ =>
         have q : a.eval (.tmp 25) = .pointer (some ⟨B, 0, none⟩) := dep_at ho hdep (j := 3) (dj := 25) (by kernel_rfl) (by kernel_rfl)
         have q' : a.tmps[25]?.getD undef = .pointer (some ⟨B, 0, none⟩) := by have h := q; simpa [Act.eval] using h
         have c0 : w.cell? ⟨B, 0, none⟩ = some (.slice av N cv) := by rw [cell_blk hI'.book, ← Hev.out]; rfl
         exact spec_run (d := some 26) (op := .load 33 (.tmp 25)) (ty := 33) (v := .slice av N cv) (w' := w) ho (by kernel_rfl) (fun pos after => by simp [execOp, q', c0, go_sem]) (hK _ _ hI (dst_ne ho (d := 26) (by kernel_rfl)) Hev.out.symm (fun _ _ _ h => h))
       | 5, _ => exact spec_run (d := some 27) (op := .move (.tmp 1)) (ty := 36) (v := .slice al n cl) (w' := w) ho (by kernel_rfl) (fun pos after => by simp [execOp, e1]) (hK _ _ hI (dst_ne ho (d := 27) (by kernel_rfl)) rfl (fun _ _ _ h => h))
       | 6, _ => exact spec_run (d := some 28) (op := .move (.tmp 1)) (ty := 36) (v := .slice al n cl) (w' := w) ho (by kernel_rfl) (fun pos after => by simp [execOp, e1]) (hK _ _ hI (dst_ne ho (d := 28) (by kernel_rfl)) rfl (fun _ _ _ h => h))
       | 7, _ => exact spec_run (d := some 29) (op := .move (.tmp 4)) (ty := 3) (v := .int .i64 m) (w' := w) ho (by kernel_rfl) (fun pos after => by simp [execOp, e4]) (hK _ _ hI (dst_ne ho (d := 29) (by kernel_rfl)) rfl (fun _ _ _ h => h))
       | 8, _ =>
         have q29 : a.eval (.tmp 29) = .int .i64 m := dep_at ho hdep (j := 7) (dj := 29) (by kernel_rfl) (by kernel_rfl)
         have q29' : a.tmps[29]?.getD undef = .int .i64 m := by have h := q29; simpa [Act.eval] using h
         refine spec_run (d := some 30) (op := .buildSlice 36 1 #[(0, .tmp 29)]) (ty := 36) (v := .slice (some ⟨w.heap.size, 0, none⟩) 1 1) (w' := w.alloc (.cells #[.int .i64 m] 3)) ho (by kernel_rfl) (fun pos after => by simp [execOp, q29', go_sem]) (hK _ _ (hI'.alloc _) (dst_ne ho (d := 30) (by kernel_rfl)) ?_ (fun j u _ h => KSpec.alloc _ j u h))
         exact MarkS.new w 1 _ rfl (fun j hj => by match j, hj with | 0, _ => rfl) (by unfold maxLen; omega)
       | 9, _ =>
         have ql : a.eval (.tmp 28) = .slice al n cl := dep_at ho hdep (j := 6) (dj := 28) (by kernel_rfl) (by kernel_rfl)
         have qx : MarkS m w (a.eval (.tmp 30)) 1 := dep_at ho hdep (j := 8) (dj := 30) (by kernel_rfl) (by kernel_rfl)
         obtain ⟨v, w', hr, h1, h2, h3, h4, h5⟩ := keep_append i0 hi hz0 hz1 hz2 Tryz.underlying36 36 hI' qx (by omega) (by omega) hn
         exact spec_run (d := some 31) (op := .call { callee := .builtin .append, args := #[.tmp 28, .tmp 30], argTypes := #[36, 36] }) (ty := 36) (v := v) (w' := w') ho (by kernel_rfl) (fun pos after => by simp [execOp, resolve, invoke, builtin, ql, hr, Result.andThen]) (hK _ _ h1 (dst_ne ho (d := 31) (by kernel_rfl)) h2 (fun j u _ h => KSpec.stay h3 h4 h5 j u h))
       | 10, _ => exact spec_run (d := some 32) (op := .move (.tmp 1)) (ty := 36) (v := .slice al n cl) (w' := w) ho (by kernel_rfl) (fun pos after => by simp [execOp, e1]) (hK _ _ hI (dst_ne ho (d := 32) (by kernel_rfl)) rfl (fun _ _ _ h => h))
       | 11, _ => exact spec_run (d := some 33) (op := .move (.tmp 4)) (ty := 3) (v := .int .i64 m) (w' := w) ho (by kernel_rfl) (fun pos after => by simp [execOp, e4]) (hK _ _ hI (dst_ne ho (d := 33) (by kernel_rfl)) rfl (fun _ _ _ h => h))
       | 12, _ => exact spec_run (d := some 34) (op := .move (.tmp 4)) (ty := 3) (v := .int .i64 m) (w' := w) ho (by kernel_rfl) (fun pos after => by simp [execOp, e4]) (hK _ _ hI (dst_ne ho (d := 34) (by kernel_rfl)) rfl (fun _ _ _ h => h))
       | 13, _ =>
         have q33 : a.eval (.tmp 33) = .int .i64 m := dep_at ho hdep (j := 11) (dj := 33) (by kernel_rfl) (by kernel_rfl)
         have q33' : a.tmps[33]?.getD undef = .int .i64 m := by have h := q33; simpa [Act.eval] using h
         have q34 : a.eval (.tmp 34) = .int .i64 m := dep_at ho hdep (j := 12) (dj := 34) (by kernel_rfl) (by kernel_rfl)
         have q34' : a.tmps[34]?.getD undef = .int .i64 m := by have h := q34; simpa [Act.eval] using h
         refine spec_run (d := some 35) (op := .buildSlice 36 2 #[(0, .tmp 33), (1, .tmp 34)]) (ty := 36) (v := .slice (some ⟨w.heap.size, 0, none⟩) 2 2) (w' := w.alloc (.cells #[.int .i64 m, .int .i64 m] 3)) ho (by kernel_rfl) (fun pos after => by simp [execOp, q33', q34', go_sem]) (hK _ _ (hI'.alloc _) (dst_ne ho (d := 35) (by kernel_rfl)) ?_ (fun j u _ h => KSpec.alloc _ j u h))
         exact MarkS.new w 2 _ rfl (fun j hj => by match j, hj with | 0, _ => rfl | 1, _ => rfl) (by unfold maxLen; omega)
       | 14, _ =>
         have ql : a.eval (.tmp 32) = .slice al n cl := dep_at ho hdep (j := 10) (dj := 32) (by kernel_rfl) (by kernel_rfl)
         have qx : MarkS m w (a.eval (.tmp 35)) 2 := dep_at ho hdep (j := 13) (dj := 35) (by kernel_rfl) (by kernel_rfl)
         obtain ⟨v, w', hr, h1, h2, h3, h4, h5⟩ := keep_append i0 hi hz0 hz1 hz2 Tryz.underlying36 36 hI' qx (by omega) (by omega) hn
         exact spec_run (d := some 36) (op := .call { callee := .builtin .append, args := #[.tmp 32, .tmp 35], argTypes := #[36, 36] }) (ty := 36) (v := v) (w' := w') ho (by kernel_rfl) (fun pos after => by simp [execOp, resolve, invoke, builtin, ql, hr, Result.andThen]) (hK _ _ h1 (dst_ne ho (d := 36) (by kernel_rfl)) h2 (fun j u _ h => KSpec.stay h3 h4 h5 j u h))
       | 15, _ => exact spec_run (d := some 37) (op := .move (.tmp 1)) (ty := 36) (v := .slice al n cl) (w' := w) ho (by kernel_rfl) (fun pos after => by simp [execOp, e1]) (hK _ _ hI (dst_ne ho (d := 37) (by kernel_rfl)) rfl (fun _ _ _ h => h))
       | 16, _ => exact spec_run (d := some 38) (op := .move (.tmp 4)) (ty := 3) (v := .int .i64 m) (w' := w) ho (by kernel_rfl) (fun pos after => by simp [execOp, e4]) (hK _ _ hI (dst_ne ho (d := 38) (by kernel_rfl)) rfl (fun _ _ _ h => h))
       | 17, _ => exact spec_run (d := some 39) (op := .move (.tmp 4)) (ty := 3) (v := .int .i64 m) (w' := w) ho (by kernel_rfl) (fun pos after => by simp [execOp, e4]) (hK _ _ hI (dst_ne ho (d := 39) (by kernel_rfl)) rfl (fun _ _ _ h => h))
       | 18, _ => exact spec_run (d := some 40) (op := .move (.tmp 4)) (ty := 3) (v := .int .i64 m) (w' := w) ho (by kernel_rfl) (fun pos after => by simp [execOp, e4]) (hK _ _ hI (dst_ne ho (d := 40) (by kernel_rfl)) rfl (fun _ _ _ h => h))
       | 19, _ => exact spec_run (d := some 41) (op := .move (.tmp 4)) (ty := 3) (v := .int .i64 m) (w' := w) ho (by kernel_rfl) (fun pos after => by simp [execOp, e4]) (hK _ _ hI (dst_ne ho (d := 41) (by kernel_rfl)) rfl (fun _ _ _ h => h))
       | 20, _ => exact spec_run (d := some 42) (op := .move (.tmp 4)) (ty := 3) (v := .int .i64 m) (w' := w) ho (by kernel_rfl) (fun pos after => by simp [execOp, e4]) (hK _ _ hI (dst_ne ho (d := 42) (by kernel_rfl)) rfl (fun _ _ _ h => h))
       | 21, _ => exact spec_run (d := some 43) (op := .move (.tmp 4)) (ty := 3) (v := .int .i64 m) (w' := w) ho (by kernel_rfl) (fun pos after => by simp [execOp, e4]) (hK _ _ hI (dst_ne ho (d := 43) (by kernel_rfl)) rfl (fun _ _ _ h => h))
       | 22, _ =>
         have q38 : a.eval (.tmp 38) = .int .i64 m := dep_at ho hdep (j := 16) (dj := 38) (by kernel_rfl) (by kernel_rfl)
         have q38' : a.tmps[38]?.getD undef = .int .i64 m := by have h := q38; simpa [Act.eval] using h
         have q39 : a.eval (.tmp 39) = .int .i64 m := dep_at ho hdep (j := 17) (dj := 39) (by kernel_rfl) (by kernel_rfl)
         have q39' : a.tmps[39]?.getD undef = .int .i64 m := by have h := q39; simpa [Act.eval] using h
         have q40 : a.eval (.tmp 40) = .int .i64 m := dep_at ho hdep (j := 18) (dj := 40) (by kernel_rfl) (by kernel_rfl)
         have q40' : a.tmps[40]?.getD undef = .int .i64 m := by have h := q40; simpa [Act.eval] using h
         have q41 : a.eval (.tmp 41) = .int .i64 m := dep_at ho hdep (j := 19) (dj := 41) (by kernel_rfl) (by kernel_rfl)
         have q41' : a.tmps[41]?.getD undef = .int .i64 m := by have h := q41; simpa [Act.eval] using h
         have q42 : a.eval (.tmp 42) = .int .i64 m := dep_at ho hdep (j := 20) (dj := 42) (by kernel_rfl) (by kernel_rfl)
         have q42' : a.tmps[42]?.getD undef = .int .i64 m := by have h := q42; simpa [Act.eval] using h
         have q43 : a.eval (.tmp 43) = .int .i64 m := dep_at ho hdep (j := 21) (dj := 43) (by kernel_rfl) (by kernel_rfl)
         have q43' : a.tmps[43]?.getD undef = .int .i64 m := by have h := q43; simpa [Act.eval] using h
         refine spec_run (d := some 44) (op := .buildSlice 36 6 #[(0, .tmp 38), (1, .tmp 39), (2, .tmp 40), (3, .tmp 41), (4, .tmp 42), (5, .tmp 43)]) (ty := 36) (v := .slice (some ⟨w.heap.size, 0, none⟩) 6 6) (w' := w.alloc (.cells #[.int .i64 m, .int .i64 m, .int .i64 m, .int .i64 m, .int .i64 m, .int .i64 m] 3)) ho (by kernel_rfl) (fun pos after => by simp [execOp, q38', q39', q40', q41', q42', q43', go_sem]) (hK _ _ (hI'.alloc _) (dst_ne ho (d := 44) (by kernel_rfl)) ?_ (fun j u _ h => KSpec.alloc _ j u h))
         exact MarkS.new w 6 _ rfl (fun j hj => by match j, hj with | 0, _ => rfl | 1, _ => rfl | 2, _ => rfl | 3, _ => rfl | 4, _ => rfl | 5, _ => rfl) (by unfold maxLen; omega)
       | 23, _ =>
         have ql : a.eval (.tmp 37) = .slice al n cl := dep_at ho hdep (j := 15) (dj := 37) (by kernel_rfl) (by kernel_rfl)
         have qx : MarkS m w (a.eval (.tmp 44)) 6 := dep_at ho hdep (j := 22) (dj := 44) (by kernel_rfl) (by kernel_rfl)
         obtain ⟨v, w', hr, h1, h2, h3, h4, h5⟩ := keep_append i0 hi hz0 hz1 hz2 Tryz.underlying36 36 hI' qx (by omega) (by omega) hn
         exact spec_run (d := some 45) (op := .call { callee := .builtin .append, args := #[.tmp 37, .tmp 44], argTypes := #[36, 36] }) (ty := 36) (v := v) (w' := w') ho (by kernel_rfl) (fun pos after => by simp [execOp, resolve, invoke, builtin, ql, hr, Result.andThen]) (hK _ _ h1 (dst_ne ho (d := 45) (by kernel_rfl)) h2 (fun j u _ h => KSpec.stay h3 h4 h5 j u h))
       | 24, _ =>
         have q27 : a.eval (.tmp 27) = .slice al n cl := dep_at ho hdep (j := 5) (dj := 27) (by kernel_rfl) (by kernel_rfl)
         have q27' : a.tmps[27]?.getD undef = .slice al n cl := by have h := q27; simpa [Act.eval] using h
         have ⟨h31, o31⟩ : MarkS m w (a.eval (.tmp 31)) (n + 1) ∧ okM (KOk w0 (.slice al n cl)) (a.eval (.tmp 31)) := dep_at ho hdep (j := 9) (dj := 31) (by kernel_rfl) (by kernel_rfl)
         obtain ⟨g31, c31, e31, _⟩ := h31.news
         have q31' : a.tmps[31]?.getD undef = .slice (some ⟨g31, 0, none⟩) (n + 1) c31 := by have h := e31; simpa [Act.eval] using h
         rw [e31] at h31 o31
         have ⟨h36, o36⟩ : MarkS m w (a.eval (.tmp 36)) (n + 2) ∧ okM (KOk w0 (.slice al n cl)) (a.eval (.tmp 36)) := dep_at ho hdep (j := 14) (dj := 36) (by kernel_rfl) (by kernel_rfl)
         obtain ⟨g36, c36, e36, _⟩ := h36.news
         have q36' : a.tmps[36]?.getD undef = .slice (some ⟨g36, 0, none⟩) (n + 2) c36 := by have h := e36; simpa [Act.eval] using h
         rw [e36] at h36 o36
         have ⟨h45, o45⟩ : MarkS m w (a.eval (.tmp 45)) (n + 6) ∧ okM (KOk w0 (.slice al n cl)) (a.eval (.tmp 45)) := dep_at ho hdep (j := 23) (dj := 45) (by kernel_rfl) (by kernel_rfl)
         obtain ⟨g45, c45, e45, _⟩ := h45.news
         have q45' : a.tmps[45]?.getD undef = .slice (some ⟨g45, 0, none⟩) (n + 6) c45 := by have h := e45; simpa [Act.eval] using h
         rw [e45] at h45 o45
         refine spec_run (d := some 46) (op := .buildSlice 62 4 #[(0, .tmp 27), (1, .tmp 31), (2, .tmp 36), (3, .tmp 45)]) (ty := 62) (v := .slice (some ⟨w.heap.size, 0, none⟩) 4 4) (w' := w.alloc (.cells #[.slice al n cl, .slice (some ⟨g31, 0, none⟩) (n + 1) c31, .slice (some ⟨g36, 0, none⟩) (n + 2) c36, .slice (some ⟨g45, 0, none⟩) (n + 6) c45] 36)) ho (by kernel_rfl) (fun pos after => by simp [execOp, q27', q31', q36', q45', go_sem]) (hK _ _ (hI'.alloc _) (dst_ne ho (d := 46) (by kernel_rfl)) ?_ (fun j u _ h => KSpec.alloc _ j u h))
         have hms : MStay m w (w.alloc (.cells #[.slice al n cl, .slice (some ⟨g31, 0, none⟩) (n + 1) c31, .slice (some ⟨g36, 0, none⟩) (n + 2) c36, .slice (some ⟨g45, 0, none⟩) (n + 6) c45] 36)) := MStay.of_keep (KeepT.alloc _ _)
         have hlm := hI'.mark.imp (fun h => h) (fun h => h.stay hms)
         exact ⟨w.heap.size, _, _, _, _, rfl, alloc_new w _, markT_of hlm, h31.stay hms, h36.stay hms, h45.stay hms, hlm, fun a n c e _ => .inl (by cases e; rfl), o31, o36, o45, hI'.only.size⟩
       | 25, _ =>
         have h46 : EntS (KOk w0 (.slice al n cl)) w0.heap.size m n w (a.eval (.tmp 46)) := dep_at ho hdep (j := 24) (dj := 46) (by kernel_rfl) (by kernel_rfl)
         obtain ⟨g46, _, _, _, _, e46, _⟩ := h46
         have h46' : EntS (KOk w0 (.slice al n cl)) w0.heap.size m n w (.slice (some ⟨g46, 0, none⟩) 4 4) := by have h : EntS (KOk w0 (.slice al n cl)) w0.heap.size m n w (a.eval (.tmp 46)) := dep_at ho hdep (j := 24) (dj := 46) (by kernel_rfl) (by kernel_rfl); rw [e46] at h; exact h
         have q46' : a.tmps[46]?.getD undef = .slice (some ⟨g46, 0, none⟩) 4 4 := by have h := e46; simpa [Act.eval] using h
         refine spec_run (d := some 47) (op := .buildSlice 33 1 #[(0, .tmp 46)]) (ty := 33) (v := .slice (some ⟨w.heap.size, 0, none⟩) 1 1) (w' := w.alloc (.cells #[.slice (some ⟨g46, 0, none⟩) 4 4] 62)) ho (by kernel_rfl) (fun pos after => by simp [execOp, q46', go_sem]) (hK _ _ (hI'.alloc _) (dst_ne ho (d := 47) (by kernel_rfl)) ?_ (fun j u _ h => KSpec.alloc _ j u h))
         exact ⟨w.heap.size, _, hI'.only.size, rfl, alloc_new w _, h46'.stay (MStay.of_keep (KeepT.alloc _ _)) (KeepT.alloc _ _)⟩
       | 26, _ =>
         have q26 : a.eval (.tmp 26) = vl := dep_at ho hdep (j := 4) (dj := 26) (by kernel_rfl) (by kernel_rfl)
         obtain ⟨g47, ee, hge47, e47, hg47, hent⟩ : KSpec w0 B N n m (.slice al n cl) vl es 25 (a.eval (.tmp 47)) w := dep_at ho hdep (j := 25) (dj := 47) (by kernel_rfl) (by kernel_rfl)
         obtain ⟨g', cap', w', hr, h1, h2, h3⟩ := keep_entry i1 hi1 hy0 hy1 hy2 Tryz.underlying33 33 hI' (fun k hk => (Hrow.out.lt k hk).2) hg47 hent hN
         exact spec_run (d := some 48) (op := .call { callee := .builtin .append, args := #[.tmp 26, .tmp 47], argTypes := #[33, 33] }) (ty := 33) (v := .slice (some ⟨g', 0, none⟩) (N + 1) cap') (w' := w') ho (by kernel_rfl) (fun pos after => by simp [execOp, resolve, invoke, builtin, q26, e47, hr, Result.andThen]) (hK _ _ h1 (dst_ne ho (d := 48) (by kernel_rfl)) h2 h3)
       | 27, _ =>
         have q : a.eval (.tmp 22) = .pointer (some ⟨B, 0, none⟩) := dep_at ho hdep (j := 0) (dj := 22) (by kernel_rfl) (by kernel_rfl)
         have q' : a.tmps[22]?.getD undef = .pointer (some ⟨B, 0, none⟩) := by have h := q; simpa [Act.eval] using h
         exact spec_run (d := some 49) (op := .nilCheck (.tmp 22)) (ty := 0) (v := .pointer (some ⟨B, 0, none⟩)) (w' := w) ho (by kernel_rfl) (fun pos after => by simp [execOp, q', go_sem]) (hK _ _ hI (dst_ne ho (d := 49) (by kernel_rfl)) rfl (fun _ _ _ h => h))
       | 28, _ =>
         have q : a.eval (.tmp 49) = .pointer (some ⟨B, 0, none⟩) := dep_at ho hdep (j := 27) (dj := 49) (by kernel_rfl) (by kernel_rfl)
         have q' : a.tmps[49]?.getD undef = .pointer (some ⟨B, 0, none⟩) := by have h := q; simpa [Act.eval] using h
         exact spec_run (d := some 50) (op := .fieldAddr 35 (.tmp 49) 0) (ty := 0) (v := .pointer (some ⟨B, 0, none⟩)) (w' := w) ho (by kernel_rfl) (fun pos after => by simp [execOp, q', go_sem]) (hK _ _ hI (dst_ne ho (d := 50) (by kernel_rfl)) rfl (fun _ _ _ h => h))
       | 29, _ =>
         have q50 : a.eval (.tmp 50) = .pointer (some ⟨B, 0, none⟩) := dep_at ho hdep (j := 28) (dj := 50) (by kernel_rfl) (by kernel_rfl)
         have q50' : a.tmps[50]?.getD undef = .pointer (some ⟨B, 0, none⟩) := by have h := q50; simpa [Act.eval] using h
         obtain ⟨g48, c48, ee, e48, hown48, hent48, hat48⟩ : KSpec w0 B N n m (.slice al n cl) vl es 26 (a.eval (.tmp 48)) w := dep_at ho hdep (j := 26) (dj := 48) (by kernel_rfl) (by kernel_rfl)
         have q48' : a.tmps[48]?.getD undef = .slice (some ⟨g48, 0, none⟩) (N + 1) c48 := by have h := e48; simpa [Act.eval] using h
         rw [e48] at hown48
         have c0 : w.cell? ⟨B, 0, none⟩ = some vl := by rw [cell_blk hI'.book]; rfl
         have f0 := frozen_blk hI'.book 0
         have ks : ∀ e : TypeId, e ≠ 35 → KeepT e w (w.setCell ⟨B, 0, none⟩ (.slice (some ⟨g48, 0, none⟩) (N + 1) c48)) := fun e he => KeepT.setCell hI'.book he _
         refine spec_skip (d := none) (op := .store 33 (.tmp 50) (.tmp 48)) (ty := 0) (w' := w.setCell ⟨B, 0, none⟩ (.slice (some ⟨g48, 0, none⟩) (N + 1) c48)) ho (by kernel_rfl) (fun pos after => by simp [execOp, q50', q48', c0, f0, go_sem]) (hK _ _ ?_ (fun _ => rfl) trivial (fun j u _ h => KSpec.stay (MStay.of_keep (ks _ (by decide))) (ks _ (by decide)) (ks _ (by decide)) j u h))
         refine ⟨hI'.only.setCell (fun _ => .inl rfl) _, g48, c48, ee, ?_, ?_, hent48.stay (MStay.of_keep (ks _ (by decide))) (ks _ (by decide)), hat48⟩
         · rw [setCell_blk hI'.book]; rfl
         · obtain ⟨q1, q2 | ⟨b, cap, cur, e', hb, hh, rest⟩⟩ := hown48
           · exact ⟨q1, .inl q2⟩
           · exact ⟨q1, .inr ⟨b, cap, cur, e', hb, ks _ (by decide) _ _ _ hh, rest⟩⟩
       | _ + 30, h => exact absurd h (by omega)
end Go.Proofs.YtlmflighkkgikaaGreat
namespace Go.Proofs.YtlmflighkkgikaaGreat
open Go.RowKit
def memOf (c : Cfg) (tk : Nat → Nat) : Nat → (Nat → Nat → Nat → Int) × (Nat → Nat → Nat → Int)
 | 0 => (fun _ _ _ => 0, fun _ _ _ => 0)
 | p + 1 => (fun t l => if t = p then kNew c l p (xAt c p (tk p) (memOf c tk p).1 (memOf c tk p).2 l) else (memOf c tk p).1 t l,
             fun t l => if t = p then vNew c l (xAt c p (tk p) (memOf c tk p).1 (memOf c tk p).2 l) else (memOf c tk p).2 t l)
def xIn (c : Cfg) (tk : Nat → Nat) (p l : Nat) : Nat → Int := xAt c p (tk p) (memOf c tk p).1 (memOf c tk p).2 l
def kOf (c : Cfg) (tk : Nat → Nat) (p l : Nat) : Nat → Int := kNew c l p (xIn c tk p l)
def vOf (c : Cfg) (tk : Nat → Nat) (p l : Nat) : Nat → Int := vNew c l (xIn c tk p l)
theorem memOf_at (c : Cfg) (tk : Nat → Nat) (n t : Nat) (h : t < n) : (memOf c tk n).1 t = kOf c tk t ∧ (memOf c tk n).2 t = vOf c tk t := by
 induction n with
 | zero => omega
 | succ n ih =>
   by_cases e : t = n
   · subst e; simp only [memOf, if_true]; exact ⟨rfl, rfl⟩
   · simp only [memOf, if_neg e]; exact ih (by omega)
theorem memOf_bd (c : Cfg) (tk : Nat → Nat) (n : Nat) : (∀ t l j, -4095 ≤ (memOf c tk n).1 t l j ∧ (memOf c tk n).1 t l j ≤ 4095) ∧ (∀ t l j, -4095 ≤ (memOf c tk n).2 t l j ∧ (memOf c tk n).2 t l j ≤ 4095) := by
 induction n with
 | zero => constructor <;> intro t l j <;> simp [memOf]
 | succ n ih =>
   constructor <;> intro t l j <;> simp only [memOf] <;> split
   · exact kNew_bd _ _ _ _ _
   · exact ih.1 t l j
   · exact vNew_bd _ _ _ _
   · exact ih.2 t l j
theorem memOf_congr (c : Cfg) {tk tk' : Nat → Nat} (n : Nat) (h : ∀ j, j < n → tk j = tk' j) : memOf c tk n = memOf c tk' n := by
 induction n with
 | zero => rfl
 | succ n ih => simp only [memOf]; rw [ih (fun j hj => h j (by omega)), h n (by omega)]
theorem xIn_congr (c : Cfg) {tk tk' : Nat → Nat} (p : Nat) (h : ∀ j, j ≤ p → tk j = tk' j) : xIn c tk p = xIn c tk' p := by
 funext l; unfold xIn; rw [memOf_congr c p (fun j hj => h j (by omega)), h p (Nat.le_refl _)]
theorem kOf_congr (c : Cfg) {tk tk' : Nat → Nat} (p : Nat) (h : ∀ j, j ≤ p → tk j = tk' j) : kOf c tk p = kOf c tk' p ∧ vOf c tk p = vOf c tk' p := by
 constructor
 · funext l; unfold kOf; rw [xIn_congr c p h]
 · funext l; unfold vOf; rw [xIn_congr c p h]
theorem xIn_bd (c : Cfg) (tk : Nat → Nat) (p l j : Nat) : -4095 ≤ xIn c tk p l j ∧ xIn c tk p l j ≤ 4095 := xAt_bd _ _ _ _ _ _ _
theorem kOf_bd (c : Cfg) (tk : Nat → Nat) (p l j : Nat) : -4095 ≤ kOf c tk p l j ∧ kOf c tk p l j ≤ 4095 := kNew_bd _ _ _ _ _
theorem vOf_bd (c : Cfg) (tk : Nat → Nat) (p l j : Nat) : -4095 ≤ vOf c tk p l j ∧ vOf c tk p l j ≤ 4095 := vNew_bd _ _ _ _
def rowOf (c : Cfg) (tk : Nat → Nat) (r t : Nat) : Nat → Int := if r % 2 = 0 then kOf c tk t (r / 2) else vOf c tk t (r / 2)
theorem rowOf_bd (c : Cfg) (tk : Nat → Nat) (r t j : Nat) : -4095 ≤ rowOf c tk r t j ∧ rowOf c tk r t j ≤ 4095 := by
 unfold rowOf; split
 · exact kOf_bd _ _ _ _ _
 · exact vOf_bd _ _ _ _ _
theorem headAt_congr {p : Nat} {sc sc' v v' : Nat → Int} (h : ∀ t, t ≤ p → sc t = sc' t) (h' : ∀ t, t ≤ p → v t = v' t) : headAt p sc v = headAt p sc' v' := by
 have ht : ∀ n, n ≤ p → maxTo sc n = maxTo sc' n := by
   intro n
   induction n with
   | zero => intro _; simp only [maxTo]; exact h 0 (by omega)
   | succ n ih => intro hn; simp only [maxTo]; rw [ih (by omega), h (n + 1) hn]
 have hs : ∀ t, t ≤ p → shareAt p sc t = shareAt p sc' t := fun t htp => by unfold shareAt; rw [ht p (Nat.le_refl _), h t htp]
 unfold headAt
 rw [sumTo_congr (fun j hj => by rw [hs j (by omega), h' j (by omega)]), sumTo_congr (fun j hj => hs j (by omega))]
theorem xNext_congr (c : Cfg) (l p : Nat) (x : Nat → Int) {kf kf' vf vf' : Nat → Nat → Int} (hk : ∀ t, t ≤ p → kf t = kf' t) (hv : ∀ t, t ≤ p → vf t = vf' t) : xNext c l p x kf vf = xNext c l p x kf' vf' := by
 have e : attOf c p (qNew c l p x) kf vf = attOf c p (qNew c l p x) kf' vf' := by
   funext i
   unfold attOf
   exact headAt_congr (fun t ht => by rw [hk t ht]) (fun t ht => by rw [hv t ht])
 unfold xNext; rw [e]
theorem xIn_succ (c : Cfg) (tk : Nat → Nat) (p l : Nat) : xIn c tk p (l + 1) = xNext c l p (xIn c tk p l) (fun t => kOf c tk t l) (fun t => vOf c tk t l) := by
 show xNext c l p _ _ _ = _
 refine xNext_congr c l p _ (fun t ht => ?_) (fun t ht => ?_)
 · by_cases e : t = p
   · subst e; rw [if_pos rfl]; rfl
   · rw [if_neg e, (memOf_at c tk p t (by omega)).1]
 · by_cases e : t = p
   · subst e; rw [if_pos rfl]; rfl
   · rw [if_neg e, (memOf_at c tk p t (by omega)).2]
end Go.Proofs.YtlmflighkkgikaaGreat
namespace Go.Proofs.YtlmflighkkgikaaGreat
open Go.RowKit
attribute [local go_sem ↓] Go.wp_at_zero Go.wp_at_succ
def argTo (f : Nat → Int) : Nat → Nat
 | 0 => 0
 | n + 1 => if f (argTo f n) < f (n + 1) then n + 1 else argTo f n
theorem argTo_le (f : Nat → Int) (n : Nat) : argTo f n ≤ n := by
 induction n with
 | zero => exact Nat.le_refl _
 | succ n ih => simp only [argTo]; split <;> omega
theorem argTo_max (f : Nat → Int) (n : Nat) : f (argTo f n) = maxTo f n := by
 induction n with
 | zero => rfl
 | succ n ih =>
   simp only [argTo, maxTo]
   rw [← ih]
   split <;> rfl
theorem argTo_first (f : Nat → Int) (n : Nat) : ∀ j, j < argTo f n → f j < maxTo f n := by
 induction n with
 | zero => intro j hj; simp [argTo] at hj
 | succ n ih =>
   intro j hj
   simp only [argTo] at hj
   have h1 := argTo_max f n
   by_cases e : f (argTo f n) < f (n + 1)
   · rw [if_pos e] at hj
     have h2 := maxTo_ge f n j (by omega)
     simp only [maxTo]
     rw [if_pos (by omega)]
     omega
   · rw [if_neg e] at hj
     have h2 := ih j hj
     simp only [maxTo]
     rw [if_neg (by omega)]
     exact h2
set_option maxRecDepth 100000 in
set_option maxHeartbeats 1000000 in
theorem indexint_any (n m : Nat) (x : Int) (f : Nat → Int) (v : Value) (w : World) (h : Ints w v n f) (hm : m < n) (he : f m = x) (hf : ∀ j, j < m → f j ≠ x) (hn : n ≤ 1000) :
   Calls Tryz.prog 116 #[v, .int .i64 x] w fun e w' => e = .returned (.int .i64 m) ∧ w' = w := by
 obtain ⟨aa, ca, rfl, ha1, ha2, ha3⟩ := h
 unfold maxLen at ha2
 obtain ⟨b1, o1, rfl, hlb1, hc1⟩ := ha3 (by omega)
 have Hc1 := hide hc1
 have Hf := hide hf
 have He := hide he
 clear hc1 ha3 hf he
 go_enter Tryz.func116, Tryz.ntmps116
 go_wp2
 go_loop [5, 8] (fun _ i => ∃ k : Nat, k ≤ m ∧ i = .int .i64 k) (fun _ i => n - (intOf i).toNat)
 case atStart => exact ⟨0, Nat.zero_le _, rfl⟩
 case round =>
   obtain ⟨k, hk, rfl⟩ := hrel
   have ck := Hc1.out k (by omega)
   have hkn : k < n := by omega
   by_cases hkm : k = m
   · have e : f k = x := by rw [hkm]; exact He.out
     rw [e] at ck
     have Hkm := hide hkm
     clear hkm e
     go_wp2
     go_ret
     exact ⟨ret_int (by rw [Hkm.out]), rfl⟩
   · have hne := Hf.out k (by omega)
     generalize f k = y at ck hne
     have hd : decide (x = y) = false := by simp; exact fun e => hne e.symm
     have hd2 : (x == y) = false := by simp; exact fun e => hne e.symm
     have hd3 : ¬ x = y := fun e => hne e.symm
     clear hne
     go_wp2
     go_round
     case rel => exact ⟨k + 1, by omega, by go_num⟩
     case measure => simp [intOf]; omega
theorem greatest_any (n : Nat) (f : Nat → Int) (v : Value) (w : World) (h : IntsT w v (n + 1) f) (hn : n + 1 ≤ 1000) :
   Calls Tryz.prog 105 #[v] w fun e w' => e = .returned (.int .i64 (argTo f n)) ∧ w' = w := by
 have hmax := max_any (n + 1) v f w h (by omega) hn
 have hix := indexint_any (n + 1) (argTo f n) (maxTo f n) f v w h.ints (by have := argTo_le f n; omega) (argTo_max f n) (fun j hj => by have := argTo_first f n j hj; omega) hn
 have e1 : topTo f (n + 1) = maxTo f n := rfl
 rw [e1] at hmax
 obtain ⟨a, c, rfl, _⟩ := h
 have Hmax := hide hmax
 have Hix := hide hix
 clear hmax hix e1
 go_enter Tryz.func105, Tryz.ntmps105
 go_wp2_with fail
 refine Calls_use Hmax.out ?_
 go_wp2_with fail
 refine Calls_use Hix.out ?_
 go_wp2
 go_ret
 exact ⟨rfl, rfl⟩
def nextOf (c : Cfg) (x : Nat → Int) : Nat := argTo (logitsOf c x) (c.vocab - 1)
theorem nextOf_lt (c : Cfg) (hc : c.ok) (x : Nat → Int) : nextOf c x < c.vocab := by
 have := argTo_le (logitsOf c x) (c.vocab - 1)
 have := hc.vocab.1
 unfold nextOf
 omega
set_option maxRecDepth 100000 in
set_option maxHeartbeats 1000000 in
theorem next_any (c : Cfg) (hc : c.ok) (M : Nat) (vx vE vH : Value) (bL oL cL : Nat) (x : Nat → Int) (w : World) (hM : ModelI w M c vE vH bL oL cL) (hx : IntsT w vx c.width x) (bx : ∀ j, -4095 ≤ x j ∧ x j ≤ 4095) :
   Calls Tryz.prog 93 #[.pointer (some ⟨M, 0, none⟩), vx] w fun e w' => e = .returned (.int .i64 (nextOf c x)) ∧ Below w.heap.size w w' := by
 obtain ⟨d1, d2⟩ := hc.vocab
 have hlo := dlogits_any c hc M vx vE vH bL oL cL x w hM hx bx
 have Hlo := hide hlo
 clear hlo hM hx
 go_enter Tryz.func93, Tryz.ntmps93
 go_wp2_with fail
 refine Hlo.out.mono ?_
 rintro e w1 ⟨b, rfl, ho, hb⟩
 have hgr := greatest_any (c.vocab - 1) (logitsOf c x) (.slice (some ⟨b, 0, none⟩) c.vocab c.vocab) w1 (by rw [show c.vocab - 1 + 1 = c.vocab by omega]; exact ho.ints) (by omega)
 have Hgr := hide hgr
 clear hgr ho Hlo
 go_wp2_with fail
 refine Calls_use Hgr.out ?_
 go_wp2
 go_ret
 exact ⟨rfl, hb⟩
end Go.Proofs.YtlmflighkkgikaaGreat
