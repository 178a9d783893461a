import Derived.Test.YtaidjhlijadmiaaP46
import Derived.Test.YtaidjhlijadmiaaP47

/-
  The statements' step.
-/
namespace Go.Proofs.Ytaidjhlijadmiaa
open Go.RowKit
attribute [local go_sem ↓] Go.wp_at_zero Go.wp_at_succ

theorem first_idx (L : List (Int × List Nat)) (A : Int) : (∀ i, i < L.length → idAt L i ≠ A) ∨ ∃ k, k < L.length ∧ idAt L k = A ∧ ∀ j, j < k → idAt L j ≠ A := by
  have h : ∀ n, n ≤ L.length → (∀ i, i < n → idAt L i ≠ A) ∨ ∃ k, k < L.length ∧ idAt L k = A ∧ ∀ j, j < k → idAt L j ≠ A := fun n => by
    induction n with
    | zero => exact fun _ => .inl (fun i hi => absurd hi (by omega))
    | succ n ih =>
      intro hn
      rcases ih (by omega) with h | h
      · by_cases e : idAt L n = A
        · exact .inr ⟨n, by omega, e, h⟩
        · left
          intro i hi
          by_cases ei : i = n
          · rw [ei]; exact e
          · exact h i (by omega)
      · exact .inr h
  exact h L.length (Nat.le_refl _)

theorem asks_all (B0 : Nat) (p : PD) (w : World) (hp : PairI B0 w p) (B N : Nat) (vl : Value) (hbk : BookI w B N vl) (hN : N ≤ 4999999999980) (H K A Bv C : Int) (vT : Value) (hA : -9223372036854775808 ≤ A ∧ A ≤ 9223372036854775807) (hK : K = 2 ∨ K = 3 ∨ K = 4) :
    Calls Try.prog 21 #[.pointer (some ⟨p.Pb, 0, none⟩), .agg #[.int .i64 H, .int .i64 K, .int .i64 A, .int .i64 Bv, .int .i64 C, vT], .pointer (some ⟨B, 0, none⟩)] w fun e w' => e = .returned (.bool true) ∧ Asked w B N vl w' := by
  rcases first_idx p.L A with hno | ⟨k, hk, he, hf⟩
  · rcases hK with rfl | rfl | rfl
    · exact asks_tok_none B0 p w hp B N vl hbk (by omega) H A Bv C vT hA hno
    · exact asks_log_none B0 p w hp B N vl hbk (by omega) H A Bv C vT hA hno
    · exact asks_kept_none B0 p w hp B N vl hbk hN H A Bv C vT hA hno
  · rcases hK with rfl | rfl | rfl
    · exact asks_tok_some B0 p w hp B N vl hbk (by omega) H A Bv C vT hA k hk he hf
    · exact asks_log_some B0 p w hp B N vl hbk (by omega) H A Bv C vT hA k hk he hf
    · by_cases hin : (0 ≤ Bv ∧ Bv < p.c.layers) ∧ (0 ≤ C ∧ C < (toksAt p.L k).length)
      · obtain ⟨bv, rfl⟩ : ∃ bv : Nat, Bv = bv := ⟨Bv.toNat, by omega⟩
        obtain ⟨cv, rfl⟩ : ∃ cv : Nat, C = cv := ⟨C.toNat, by omega⟩
        exact asks_kept_some B0 p w hp B N vl hbk hN H A bv cv vT hA k hk he hf (by omega) (by omega)
      · exact asks_kept_arg B0 p w hp B N vl hbk hN H A Bv C vT hA k hk he hf hin

/-- The blocks of a pair that may be written into. -/
def SP (p : PD) (k : Nat) : Prop := p.F k ∨ k = p.Y ∨ p.vL.ownBlock = some k

theorem PairI.ltS {B0 : Nat} {w : World} {p : PD} (h : PairI B0 w p) {k : Nat} (hk : SP p k) : B0 ≤ k ∧ k < w.heap.size := by
  rcases hk with hk | rfl | hk
  · exact h.lo k hk
  · exact ⟨h.loY, lt_blk h.ref.obj⟩
  · obtain ⟨_, _, q⟩ := h.ref.own hk
    exact ⟨h.loL k hk, lt_blk q⟩

/-- Types of which no block that there was is ever turned by a step. -/
def stillT (e : TypeId) : Prop := ¬ mutT e ∧ e ≠ 69 ∧ e ≠ 112 ∧ e ≠ 35 ∧ e ≠ 62

theorem immT.still {e : TypeId} (h : immT e) : stillT e := by
  refine ⟨h.notMut, ?_⟩
  rcases h with rfl | rfl | rfl | rfl | rfl | rfl <;> decide

theorem PairI.only {B0 : Nat} {w w' : World} {q : PD} {H : Nat → Prop} (h : PairI B0 w q) (ho : Only H w w')
    (hH : ∀ k, k < w.heap.size → H k → ¬ SP q k ∨ ∃ cur e fr, w.heap[k]? = some (.cells cur e fr) ∧ ¬ mutT e ∧ e ≠ 69 ∧ e ≠ 112) (hk : ∀ e, stillT e → KeepT e w w') : PairI B0 w' q := by
  have hs := ho.size
  refine ⟨hk _ (by unfold stillT mutT; decide) _ _ _ h.obj, h.cok, h.held.only ho (fun k hlt hh => ?_) (fun e he => hk e he.still), h.ref.keep ?_ (fun k hkk => ?_) (hk _ (by unfold stillT mutT; decide)) (hk _ (by unfold stillT mutT; decide)), fun k hk => ⟨(h.lo k hk).1, by have := (h.lo k hk).2; omega⟩, h.loY, h.loL⟩
  · rcases hH k hlt hh with q | ⟨cur, e, fr, q1, q2, _⟩
    · exact .inl (fun hF => q (.inl hF))
    · exact .inr ⟨cur, e, fr, q1, q2⟩
  · refine ho.block _ (lt_blk h.ref.obj) (fun hh => ?_)
    rcases hH _ (lt_blk h.ref.obj) hh with q | ⟨cur, e, fr, q1, _, q2, _⟩
    · exact q (.inr (.inl rfl))
    · rw [h.ref.obj] at q1; injection q1 with q1; injection q1 with _ q1 _; exact q2 q1.symm
  · obtain ⟨cur', fr', q0⟩ := h.ref.own hkk
    refine ho.block _ (lt_blk q0) (fun hh => ?_)
    rcases hH _ (lt_blk q0) hh with q | ⟨cur, e, fr, q1, _, _, q2⟩
    · exact q (.inr (.inr hkk))
    · rw [q0] at q1; injection q1 with q1; injection q1 with _ q1 _; exact q2 q1.symm

theorem PairI.below {B0 : Nat} {w w' : World} {q : PD} (h : PairI B0 w q) (hb : Below w.heap.size w w') : PairI B0 w' q :=
  h.only (Only.of_below hb (fun _ => False)) (fun _ _ hh => hh.elim) (fun _ _ => KeepT.of_below hb)

/-- What a step has done. -/
structure Stepped (B0 : Nat) (w : World) (p : PD) (B N : Nat) (vl : Value) (w' : World) (p' : PD) (N' : Nat) (vl' : Value) : Prop where
  pb : p'.Pb = p.Pb
  pair : PairI B0 w' p'
  nt : p'.nt ≤ p.nt + 1
  sub : ∀ k, SP p' k → SP p k ∨ w.heap.size ≤ k
  book : BookI w' B N' vl'
  more : N' ≤ N + 2
  own : ∀ k, vl'.ownBlock = some k → vl.ownBlock = some k ∨ w.heap.size ≤ k
  only : Only (fun k => SP p k ∨ k = B ∨ vl.ownBlock = some k) w w'
  keep : ∀ e, stillT e → KeepT e w w'

theorem Stepped.base {B0 : Nat} {w w0 w' : World} {p p' : PD} {B N N' : Nat} {vl vl' : Value} (h : Stepped B0 w0 p B N vl w' p' N' vl') (hb : Below w.heap.size w w0) : Stepped B0 w p B N vl w' p' N' vl' :=
  ⟨h.pb, h.pair, h.nt, fun k hk => (h.sub k hk).imp (fun q => q) (fun q => Nat.le_trans hb.size q), h.book, h.more, fun k hk => (h.own k hk).imp (fun q => q) (fun q => Nat.le_trans hb.size q), (Only.of_below hb _).trans h.only (fun _ _ q => q), fun e he => (KeepT.of_below hb).trans (h.keep e he)⟩

theorem PutPost.step {B0 : Nat} {w w' : World} {p : PD} {B N : Nat} {vl : Value} (hbk : BookI w B N vl) (h : PutPost B0 w p w') : ∃ p', Stepped B0 w p B N vl w' p' N vl := by
  obtain ⟨p', h1, h2, h3, h4, h5, h6, h7, h8, h9⟩ := h
  refine ⟨p', h1, h4, h5, fun k hk => ?_, hbk.keep (h9 _ (by unfold mutT; decide) (by decide) (by decide)) (h9 _ (by unfold mutT; decide) (by decide) (by decide)) (h9 _ (by unfold mutT; decide) (by decide) (by decide)) (h9 _ (by unfold mutT; decide) (by decide) (by decide)), by omega, fun k hk => .inl hk, h8.mono (fun k _ hk => .inl hk), fun e he => h9 e he.1 he.2.1 he.2.2.1⟩
  rcases hk with hk | hk | hk
  · exact (h6 k hk).imp .inl (fun q => q)
  · rw [h2] at hk; exact .inl (.inr (.inl hk))
  · exact (h7 k hk).imp (fun q => .inr (.inr q)) (fun q => q)

theorem Asked.step {B0 : Nat} {w w' : World} {p : PD} {B N : Nat} {vl : Value} (hp : PairI B0 w p) (hbk : BookI w B N vl) (h : Asked w B N vl w') : ∃ N' vl', Stepped B0 w p B N vl w' p N' vl' := by
  obtain ⟨N', vl', h1, h2, h3, h4⟩ := h
  have hty : ∀ k, k = B ∨ vl.ownBlock = some k → ∃ cur e fr, w.heap[k]? = some (.cells cur e fr) ∧ (e = 35 ∨ e = 62) := fun k hk => by
    rcases hk with rfl | hk
    · exact ⟨_, _, _, hbk.1, .inl rfl⟩
    · obtain ⟨cur, fr, q⟩ := hbk.own hk
      exact ⟨_, _, _, q, .inr rfl⟩
  have hk : ∀ e, stillT e → KeepT e w w' := fun e he => h4.keep (fun k cur fr hk hh => by
    obtain ⟨cur', e', fr', q, q'⟩ := hty k hk
    rw [q] at hh; injection hh with hh; injection hh with _ hh _
    rcases q' with q' | q'
    · exact he.2.2.2.1 (hh ▸ q')
    · exact he.2.2.2.2 (hh ▸ q'))
  refine ⟨N', vl', rfl, hp.only h4 (fun k _ hh => .inr ?_) hk, by omega, fun k hk => .inl hk, h2, h1, h3, h4.mono (fun k _ hk => .inr hk), hk⟩
  obtain ⟨cur', e', fr', q, q'⟩ := hty k hh
  refine ⟨cur', e', fr', q, ?_⟩
  rcases q' with rfl | rfl
  · unfold mutT; decide
  · unfold mutT; decide

set_option maxRecDepth 100000 in
set_option maxHeartbeats 4000000 in
theorem step_any (B0 : Nat) (p : PD) (w : World) (hp : PairI B0 w p) (hB0 : B0 ≤ w.heap.size) (B N : Nat) (vl : Value) (hbk : BookI w B N vl) (hN : N ≤ 4999999999980) (hnt : p.nt ≤ 5000000000000) (H K A Bv C : Int) (vT : Value) (n : Nat) (f : Nat → Int) (hT : ArgI B0 w vT n f)
    (hA : -9223372036854775808 ≤ A ∧ A ≤ 9223372036854775807) (hK : K ≤ 4) :
    Calls Try.prog 9 #[.pointer (some ⟨p.Pb, 0, none⟩), .agg #[.int .i64 H, .int .i64 K, .int .i64 A, .int .i64 Bv, .int .i64 C, vT], .pointer (some ⟨B, 0, none⟩)] w fun e w' => e = .returned (.bool true) ∧ ∃ p' N' vl', Stepped B0 w p B N vl w' p' N' vl' := by
  obtain ⟨w0, hw0⟩ : ∃ w0, w0 = w.alloc (.cells #[.int .i64 H, .int .i64 K, .int .i64 A, .int .i64 Bv, .int .i64 C, vT] 38) := ⟨_, rfl⟩
  have hb0 : Below w.heap.size w w0 := by rw [hw0]; exact (Below.refl _ _).alloc (Nat.le_refl _) _
  have hp0 := hp.below hb0
  have hbk0 : BookI w0 B N vl := hbk.keep (KeepT.of_below hb0) (KeepT.of_below hb0) (KeepT.of_below hb0) (KeepT.of_below hb0)
  have hs0 := hb0.size
  have hT0 : ArgI B0 w0 vT n f := hT.keep (fun k hk => hb0.block k (by omega))
  have HW0 := hide hw0
  by_cases k1 : K = 1
  · subst k1
    have hpu := puts_any B0 p w0 hp0 (by omega) H A Bv C vT n f hT0 hA hnt
    have Hpu := hide hpu
    have Hbk0 := hide hbk0
    have Hb0 := hide hb0
    clear hpu hw0 hp hp0 hbk hbk0 hT hT0 hb0
    go_enter Try.func9, Try.ntmps9
    go_wp2_with (go_at_call 19; rw [← HW0.out]; refine Hpu.out.mono ?_; rintro e w1 ⟨rfl, h1⟩; have H1 := hide h1; clear h1)
    go_ret
    obtain ⟨p', h⟩ := PutPost.step Hbk0.out H1.out
    exact ⟨rfl, p', N, vl, h.base Hb0.out⟩
  by_cases k2 : K = 2 ∨ K = 3 ∨ K = 4
  · have has := asks_all B0 p w0 hp0 B N vl hbk0 hN H K A Bv C vT hA k2
    have Has := hide has
    have Hbk0 := hide hbk0
    have Hp0 := hide hp0
    have Hb0 := hide hb0
    clear has hw0 hp hp0 hbk hbk0 hT hT0 hb0
    rcases k2 with rfl | rfl | rfl
    all_goals (
      go_enter Try.func9, Try.ntmps9
      go_wp2_with (go_at_call 21; rw [← HW0.out]; refine Has.out.mono ?_; rintro e w1 ⟨rfl, h1⟩; have H1 := hide h1; clear h1)
      go_ret
      obtain ⟨N', vl', h⟩ := Asked.step Hp0.out Hbk0.out H1.out
      exact ⟨rfl, p, N', vl', h.base Hb0.out⟩)
  · have e1 : (K == 1) = false := by rw [beq_eq_false_iff_ne]; omega
    have e2 : (K == 2) = false := by rw [beq_eq_false_iff_ne]; omega
    have e3 : (K == 3) = false := by rw [beq_eq_false_iff_ne]; omega
    have e4 : (K == 4) = false := by rw [beq_eq_false_iff_ne]; omega
    have e5 : (K == 5) = false := by rw [beq_eq_false_iff_ne]; omega
    have e6 : (K == 6) = false := by rw [beq_eq_false_iff_ne]; omega
    have e7 : (K == 7) = false := by rw [beq_eq_false_iff_ne]; omega
    have e8 : (K == 8) = false := by rw [beq_eq_false_iff_ne]; omega
    have e9 : (K == 9) = false := by rw [beq_eq_false_iff_ne]; omega
    have e10 : (K == 10) = false := by rw [beq_eq_false_iff_ne]; omega
    have hfin : Stepped B0 w p B N vl w0 p N vl := (⟨rfl, hp0, by omega, fun k hk => .inl hk, hbk0, by omega, fun k hk => .inl hk, Only.refl _ _, fun e _ => fun _ _ _ h => h⟩ : Stepped B0 w0 p B N vl w0 p N vl).base hb0
    have Hfin := hide hfin
    clear hfin hw0 hp hp0 hbk hbk0 hT hT0 hb0
    go_enter Try.func9, Try.ntmps9
    go_wp2
    go_ret
    exact ⟨rfl, p, N, vl, by rw [← HW0.out]; exact Hfin.out⟩

end Go.Proofs.Ytaidjhlijadmiaa
