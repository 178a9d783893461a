import Derived.Test.YtlmflighkkgikaaGreatP51

namespace Go.Proofs.YtlmflighkkgikaaGreat
open Go.RowKit
attribute [local go_sem ↓] Go.wp_at_zero Go.wp_at_succ
def PairsV (w : World) (lv : Value) (ps : List PD) : Prop :=
 (ps = [] ∧ lv = .slice none 0 0) ∨ ∃ (lb cap : Nat) (arr : Array Value) (fr : Nat × Nat), lv = .slice (some ⟨lb, 0, none⟩) ps.length cap ∧ ps.length ≤ cap ∧ cap ≤ maxLen ∧ w.heap[lb]? = some (.cells arr 28 fr) ∧ ∀ (i : Nat) (p : PD), ps[i]? = some p → arr[i]? = some (Value.pointer (some ⟨p.Pb, 0, none⟩))
structure PlayK (W0 w : World) (ps : List PD) (lv : Value) (B N : Nat) (vl : Value) (M K : Nat) : Prop where
 below : Below W0.heap.size W0 w
 pairs : ∀ (i : Nat) p, ps[i]? = some p → PairI W0.heap.size K w p ∧ p.nt ≤ M
 apart : ∀ (i j : Nat) p q, ps[i]? = some p → ps[j]? = some q → i ≠ j → ∀ k, SP p k → ¬ SP q k
 list : PairsV w lv ps
 book : BookI w B N vl
 ent : ∀ b, BookE w N vl b → ∀ (i : Nat) p, ps[i]? = some p → ¬ atB p.vI b
 loB : W0.heap.size ≤ B
 lovl : ∀ k, vl.ownBlock = some k → W0.heap.size ≤ k
 few : ps.length ≤ 2
 hK : K ≤ w.heap.size
def PlayI (W0 w : World) (ps : List PD) (lv : Value) (B N : Nat) (vl : Value) (M : Nat) : Prop := ∃ K, PlayK W0 w ps lv B N vl M K
section
variable {W0 w : World} {ps : List PD} {lv : Value} {B N : Nat} {vl : Value} {M : Nat}
theorem PlayI.below (h : PlayI W0 w ps lv B N vl M) : Below W0.heap.size W0 w := by obtain ⟨K, h⟩ := h; exact h.below
theorem PlayI.book (h : PlayI W0 w ps lv B N vl M) : BookI w B N vl := by obtain ⟨K, h⟩ := h; exact h.book
theorem PlayI.list (h : PlayI W0 w ps lv B N vl M) : PairsV w lv ps := by obtain ⟨K, h⟩ := h; exact h.list
theorem PlayI.more {M' : Nat} (h : PlayI W0 w ps lv B N vl M) (hm : M ≤ M') : PlayI W0 w ps lv B N vl M' := by
 obtain ⟨K, h⟩ := h
 exact ⟨K, h.below, fun i p hp => ⟨(h.pairs i p hp).1, Nat.le_trans (h.pairs i p hp).2 hm⟩, h.apart, h.list, h.book, h.ent, h.loB, h.lovl, h.few, h.hK⟩
theorem PlayI.alloc (h : PlayI W0 w ps lv B N vl M) {w' : World} (hb : Below w.heap.size w w') : PlayI W0 w' ps lv B N vl M := by
 obtain ⟨K, h⟩ := h
 refine ⟨K, h.below.trans (hb.mono h.below.size), fun i p hp => ⟨(h.pairs i p hp).1.below hb, (h.pairs i p hp).2⟩, h.apart, ?_, h.book.keep (KeepT.of_below hb) (KeepT.of_below hb) (KeepT.of_below hb) (KeepT.of_below hb), fun b hE => h.ent b (BookE.below hb h.book.ownlt hE), h.loB, h.lovl, h.few, Nat.le_trans h.hK hb.size⟩
 rcases h.list with q | ⟨lb, cap, arr, fr, q1, q2, q3, q4, q5⟩
 · exact .inl q
 · exact .inr ⟨lb, cap, arr, fr, q1, q2, q3, (hb.block _ (lt_blk q4)).trans q4, q5⟩
end
theorem PlayK.step {W0 w w' : World} {ps : List PD} {lv : Value} {B N N' : Nat} {vl vl' : Value} {M K i : Nat} {p p' : PD} (h : PlayK W0 w ps lv B N vl M K) (hi : ps[i]? = some p) (hs : Stepped W0.heap.size K w p B N vl w' p' N' vl') : PlayK W0 w' (ps.set i p') lv B N' vl' (M + 1) K := by
 have hil : i < ps.length := (List.getElem?_eq_some_iff.1 hi).1
 have get : ∀ j q, (ps.set i p')[j]? = some q → (j = i ∧ q = p') ∨ (j ≠ i ∧ ps[j]? = some q) := fun j q hq => by
   by_cases e : j = i
   · subst e
     rw [List.getElem?_set_self hil] at hq
     injection hq with hq
     exact .inl ⟨rfl, hq.symm⟩
   · rw [List.getElem?_set_ne (fun e' => e e'.symm)] at hq
     exact .inr ⟨e, hq⟩
 have hlt : ∀ j q, ps[j]? = some q → ∀ k, SP q k → k < w.heap.size := fun j q hq k hk => ((h.pairs j q hq).1.lo k hk).2
 have hty : ∀ k, k = B ∨ vl.ownBlock = some k → ∃ cur e fr, w.heap[k]? = some (.cells cur e fr) ∧ ¬ mutT e ∧ e ≠ 85 ∧ e ≠ 113 ∧ e ≠ 36 := fun k hk => by
   rcases hk with rfl | hk
   · exact ⟨_, _, _, h.book.1, by unfold mutT; decide⟩
   · obtain ⟨cur, fr, q⟩ := h.book.own hk
     exact ⟨_, _, _, q, by unfold mutT; decide⟩
 have hB : Below W0.heap.size W0 w' := by
   refine h.below.trans ⟨hs.only.os, hs.only.tape, hs.only.output, hs.only.size, fun k hk => hs.only.block k (by have := h.below.size; omega) (fun hh => ?_)⟩
   rcases hh with hh | hh | hh
   · have := ((h.pairs i p hi).1.lo k hh).1; omega
   · have := h.loB; omega
   · have := h.lovl k hh; omega
 refine ⟨hB, fun j q hq => ?_, fun j j' q q' hq hq' hne k hk hk' => ?_, ?_, hs.book, fun b hb j q hq hv => ?_, h.loB, fun k hk => ?_, by rw [List.length_set]; exact h.few, by have := hs.only.size; have := h.hK; omega⟩
 · rcases get j q hq with ⟨rfl, rfl⟩ | ⟨hj, hq⟩
   · exact ⟨hs.pair, by have := hs.nt; have := (h.pairs _ _ hi).2; omega⟩
   · refine ⟨(h.pairs j q hq).1.only hs.only (fun k _ hh => ?_) hs.keep (fun k cur fr hlt' hh => hs.keepI k cur fr (fun hv => by have := (h.pairs i p hi).1.hi k hv; omega) hh), by have := (h.pairs j q hq).2; omega⟩
     rcases hh with hh | hh | hh
     · exact .inl (h.apart i j p q hi hq (fun e => hj e.symm) k hh)
     · exact .inr (hty k (.inl hh))
     · exact .inr (hty k (.inr hh))
 · rcases get j q hq with ⟨e1, e2⟩ | ⟨hj, hq1⟩
   · rcases get j' q' hq' with ⟨e3, _⟩ | ⟨hj', hq1'⟩
     · exact hne (by rw [e1, e3])
     · rw [e2] at hk
       rcases hs.sub k hk with r | r
       · exact h.apart i j' p q' hi hq1' (fun e => hj' e.symm) k r hk'
       · have := hlt j' q' hq1' k hk'; omega
   · rcases get j' q' hq' with ⟨e3, e4⟩ | ⟨hj', hq1'⟩
     · rw [e4] at hk'
       rcases hs.sub k hk' with r | r
       · exact h.apart j i q p hq1 hi hj k hk r
       · have := hlt j q hq1 k hk; omega
     · exact h.apart j j' q q' hq1 hq1' hne k hk hk'
 · rcases h.list with ⟨q, _⟩ | ⟨lb, cap, arr, fr, q1, q2, q3, q4, q5⟩
   · rw [q] at hil; simp at hil
   · refine .inr ⟨lb, cap, arr, fr, by rw [List.length_set]; exact q1, by rw [List.length_set]; exact q2, q3, hs.keep _ (by unfold stillT mutT; decide) _ _ _ q4, fun j q hq => ?_⟩
     rcases get j q hq with ⟨rfl, rfl⟩ | ⟨hj, hq⟩
     · rw [hs.pb]; exact q5 j p hi
     · exact q5 j q hq
 · rcases get j q hq with ⟨rfl, rfl⟩ | ⟨hj, hq1⟩
   · exact hs.apart b hb hv
   · rcases hs.ent b hb with r | r
     · exact h.ent b r j q hq1 hv
     · have := hlt j q hq1 b (.inr (.inr (.inr hv))); omega
 · rcases hs.own k hk with r | r
   · exact h.lovl k r
   · have := h.below.size; omega
structure OpD where
 H : Int
 K : Int
 A : Int
 Bv : Int
 C : Int
 vT : Value
 nT : Nat
 fT : Nat → Int
def i64 (x : Int) : Prop := -9223372036854775808 ≤ x ∧ x ≤ 9223372036854775807
structure ScriptI (W0 : World) (a : Option Addr) (n cap : Nat) (op : Nat → OpD) : Prop where
 le : n ≤ cap
 cap : cap ≤ maxLen
 many : n ≤ 2300000000000
 at' : ∀ i, i < n → ∃ b off, a = some ⟨b, off, none⟩ ∧ b < W0.heap.size ∧ W0.cell? ⟨b, off + i * 6, none⟩ = some (.int .i64 (op i).H) ∧ W0.cell? ⟨b, off + i * 6 + 1, none⟩ = some (.int .i64 (op i).K) ∧ W0.cell? ⟨b, off + i * 6 + 2, none⟩ = some (.int .i64 (op i).A) ∧
   W0.cell? ⟨b, off + i * 6 + 3, none⟩ = some (.int .i64 (op i).Bv) ∧ W0.cell? ⟨b, off + i * 6 + 4, none⟩ = some (.int .i64 (op i).C) ∧ W0.cell? ⟨b, off + i * 6 + 5, none⟩ = some (op i).vT
 arg : ∀ i, i < n → ArgI W0.heap.size W0 (op i).vT (op i).nT (op i).fT ∧ i64 (op i).H ∧ i64 (op i).A ∧ i64 (op i).Bv
end Go.Proofs.YtlmflighkkgikaaGreat
