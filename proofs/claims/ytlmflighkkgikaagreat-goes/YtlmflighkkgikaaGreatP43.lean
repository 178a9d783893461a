import Derived.Deep.RegionHeld3
import Derived.Test.YtlmflighkkgikaaGreatP14
import Derived.Test.YtlmflighkkgikaaGreatP17
import Derived.Test.YtlmflighkkgikaaGreatP34
import Derived.Test.YtlmflighkkgikaaGreatP35
import Derived.Test.YtlmflighkkgikaaGreatP38
import Derived.Test.YtlmflighkkgikaaGreatP40
import Derived.Test.YtlmflighkkgikaaGreatP42

namespace Go.Proofs.YtlmflighkkgikaaGreat
open Go.RowKit
attribute [local go_sem ↓] Go.wp_at_zero Go.wp_at_succ
structure PD where
 Pb : Nat
 g : Parts
 Y : Nat
 d : Nat
 c : Cfg
 L : List (Int × Key)
 il : List (List Nat)
 nt : Nat
 vL : Value
 vI : Value
 F : Nat → Prop
def modT (e : TypeId) : Prop := e = 141 ∨ e = 143 ∨ e = 36 ∨ e = 3
def ModelK (K : Nat) (w : World) (g : Parts) (c : Cfg) : Prop :=
 ∀ w' : World, (∀ e k cur fr, modT e → k < K → w.heap[k]? = some (.cells cur e fr) → w'.heap[k]? = some (.cells cur e fr)) → ModelT w' g.M c g.vE g.vH g.bL g.oL g.cL
theorem ModelK.here {K : Nat} {w : World} {g : Parts} {c : Cfg} (h : ModelT w g.M c g.vE g.vH g.bL g.oL g.cL) (hK : w.heap.size ≤ K) : ModelK K w g c := fun _w' hk =>
 h.keep (fun k cur fr hh => hk _ k cur fr (.inr (.inr (.inl rfl))) (Nat.lt_of_lt_of_le (lt_blk hh) hK) hh) (fun k cur fr hh => hk _ k cur fr (.inr (.inr (.inr rfl))) (Nat.lt_of_lt_of_le (lt_blk hh) hK) hh) (fun k cur fr hh => hk _ k cur fr (.inl rfl) (Nat.lt_of_lt_of_le (lt_blk hh) hK) hh) (fun k cur fr hh => hk _ k cur fr (.inr (.inl rfl)) (Nat.lt_of_lt_of_le (lt_blk hh) hK) hh)
theorem ModelK.move {K : Nat} {w w1 : World} {g : Parts} {c : Cfg} (h : ModelK K w g c) (hk : ∀ e k cur fr, modT e → k < K → w.heap[k]? = some (.cells cur e fr) → w1.heap[k]? = some (.cells cur e fr)) : ModelK K w1 g c := fun w' hk' =>
 h w' (fun e k cur fr he hlt hh => hk' e k cur fr he hlt (hk e k cur fr he hlt hh))
theorem ModelK.model {K : Nat} {w : World} {g : Parts} {c : Cfg} (h : ModelK K w g c) : ModelT w g.M c g.vE g.vH g.bL g.oL g.cL := h w (fun _ _ _ _ _ _ h => h)
def SP (p : PD) (k : Nat) : Prop := (p.F k ∨ k = p.g.SM) ∨ RS p.Y p.vL p.vI k
structure PairI (B0 K : Nat) (w : World) (p : PD) : Prop where
 obj : w.heap[p.Pb]? = some (.cells #[.pointer (some ⟨p.g.X, 0, none⟩), .pointer (some ⟨p.Y, 0, none⟩)] 46 (0, 0))
 cok : p.c.ok
 held : HoardI p.F (fun _ => True) w p.g p.c p.L p.il
 ref : RefI (fun _ => True) w p.Y p.d p.c p.L p.il p.nt p.vL p.vI
 lo : ∀ k, SP p k → B0 ≤ k ∧ k < w.heap.size
 modK : ModelK K w p.g p.c
 hi : ∀ k, atB p.vI k → K ≤ k
def quietT (e : TypeId) : Prop := ¬ mutT e ∧ e ≠ 85 ∧ e ≠ 113 ∧ e ≠ 36
def stillT (e : TypeId) : Prop := ¬ mutT e ∧ e ≠ 85 ∧ e ≠ 113 ∧ e ≠ 35 ∧ e ≠ 62 ∧ e ≠ 36
theorem stillT.quiet {e : TypeId} (h : stillT e) : quietT e := ⟨h.1, h.2.1, h.2.2.1, h.2.2.2.2.2⟩
theorem HoardI.pureOf {F ok : Nat → Prop} {w : World} {g : Parts} {c : Cfg} {L : List (Int × Key)} {il : List (List Nat)} (h : HoardI F ok w g c L il) : Pure c.slots c.vocab (L.map (·.2)) il ∧ nUsed c.slots (L.map (·.2)) + il.length ≤ c.blocks := by
 obtain ⟨B, free, hS, _⟩ := h.ex
 exact ⟨hS.pure, by have := hS.count; omega⟩
theorem HoardI.ilen {F ok : Nat → Prop} {w : World} {g : Parts} {c : Cfg} {L : List (Int × Key)} {il : List (List Nat)} (h : HoardI F ok w g c L il) (hc : c.ok) : il.length ≤ 32 := by
 have := h.pureOf.2
 have := hc.blocks
 omega
theorem PairI.only {B0 K : Nat} {w w' : World} {q : PD} {H : Nat → Prop} (h : PairI B0 K w q) (ho : Only H w w')
   (hH : ∀ k, k < w.heap.size → H k → ¬ SP q k ∨ ∃ cur e fr, w.heap[k]? = some (.cells cur e fr) ∧ ¬ mutT e ∧ e ≠ 85 ∧ e ≠ 113 ∧ e ≠ 36) (hk : ∀ e, stillT e → KeepT e w w')
   (hkI : ∀ k cur fr, k < K → w.heap[k]? = some (.cells cur 36 fr) → w'.heap[k]? = some (.cells cur 36 fr)) : PairI B0 K w' q := by
 have hs := ho.size
 have hmk : ModelK K w' q.g q.c := h.modK.move (fun e k cur fr he hlt hh => by
   rcases he with rfl | rfl | rfl | rfl
   · exact hk _ (by unfold stillT mutT; decide) _ _ _ hh
   · exact hk _ (by unfold stillT mutT; decide) _ _ _ hh
   · exact hkI k cur fr hlt hh
   · exact hk _ (by unfold stillT mutT; decide) _ _ _ hh)
 have hint : KeepT 3 w w' := hk _ (by unfold stillT mutT; decide)
 have far : ∀ k, RS q.Y q.vL q.vI k → w'.heap[k]? = w.heap[k]? := fun k hr => by
   obtain ⟨cur, e, hh, he⟩ := h.ref.kind hr
   refine ho.block k (lt_blk hh) (fun hx => ?_)
   rcases hH k (lt_blk hh) hx with q1 | ⟨cur', e', fr', q1, q2, q3, q4, q5⟩
   · exact q1 (.inr hr)
   · rw [hh] at q1; injection q1 with q1; injection q1 with _ q1 _
     rcases he with he | he | he
     · exact q3 (by rw [← q1]; exact he)
     · exact q4 (by rw [← q1]; exact he)
     · exact q5 (by rw [← q1]; exact he)
 refine ⟨hk _ (by unfold stillT mutT; decide) _ _ _ h.obj, h.cok, h.held.only ho (fun k hlt hx => ?_) hmk.model (hk _ (by unfold stillT mutT; decide)) (fun b cur fr _ hh => hint _ _ _ hh), h.ref.carry (far _ (.inl rfl)) (fun k hkk => far k (.inr (.inl hkk))) (fun a n cp e => far _ (.inr (.inr ⟨a, n, cp, e, rfl⟩))) (h.ref.dec.keep (hk _ (by unfold stillT mutT; decide)) hint) (KeepOk.of hint) (fun _ h => h), fun k hkk => ⟨(h.lo k hkk).1, Nat.lt_of_lt_of_le (h.lo k hkk).2 hs⟩, hmk, h.hi⟩
 rcases hH k hlt hx with q1 | ⟨cur', e', fr', q1, q2, _⟩
 · exact .inl ⟨fun hf => q1 (.inl (.inl hf)), fun hf => q1 (.inl (.inr hf))⟩
 · exact .inr ⟨cur', e', fr', q1, q2⟩
theorem PairI.below {B0 K : Nat} {w w' : World} {q : PD} (h : PairI B0 K w q) (hb : Below w.heap.size w w') : PairI B0 K w' q :=
 h.only (Only.of_below hb (fun _ => False)) (fun _ _ hh => hh.elim) (fun _ _ => KeepT.of_below hb) (fun k cur fr _ hh => KeepT.of_below hb k cur fr hh)
set_option maxRecDepth 100000 in
set_option maxHeartbeats 2000000 in
theorem made_wrong (r : Raw) (hr : ¬ r.right) (w : World) : Calls Tryz.prog 8 #[r.agg] w fun e w' => e = .returned (.tuple #[.pointer none, .bool true]) ∧ Below w.heap.size w w' := by
 have hnw := fun w => new_wrong r hr w
 have hri := fun w => refright_any r w
 simp only [hr, decide_false] at hri
 have Hnw := hide hnw
 have Hri := hide hri
 clear hnw hri
 unfold Raw.agg at *
 have hb1 := (Below.refl w.heap.size w).alloc (Nat.le_refl _) (.cells #[.int .i64 r.blocks, .int .i64 r.slots, .int .i64 r.layers, .int .i64 r.heads, .int .i64 r.pairs, .int .i64 r.vocab, .int .i64 r.seed] 23)
 have Hb1 := hide hb1
 have Hx0 := hide (alloc_new w (.cells #[.int .i64 r.blocks, .int .i64 r.slots, .int .i64 r.layers, .int .i64 r.heads, .int .i64 r.pairs, .int .i64 r.vocab, .int .i64 r.seed] 23))
 clear hb1
 go_enter Tryz.func8, Tryz.ntmps8
 go_wp2_with (first
   | (go_at_call 17; refine (Hnw.out _).mono ?_; rintro e w1 ⟨rfl, hb⟩; obtain ⟨y0, y1, y2, y3, y4, y5, y6⟩ := cfg_cells ((hb.block w.heap.size (by simp)).trans Hx0.out); have Hb := hide hb; clear hb)
   | (go_at_call 18; refine (Hri.out _).mono ?_; rintro e w2 ⟨rfl, hb2⟩; have Hb2 := hide hb2; clear hb2))
 go_ret2
 refine ⟨rfl, ?_⟩
 have h1 := Hb1.out.trans (Hb.out.mono (by simp))
 exact h1.trans (Hb2.out.mono h1.size)
set_option maxRecDepth 100000 in
set_option maxHeartbeats 2000000 in
theorem made_any (c : Cfg) (hc : c.ok) (r : Raw) (hr : r.right) (hrc : r.agg = cfgV c) (w : World) : Calls Tryz.prog 8 #[r.agg] w fun e w' => ∃ p : PD, e = .returned (.tuple #[.pointer (some ⟨p.Pb, 0, none⟩), .bool true]) ∧ p.c = c ∧ p.L = [] ∧ p.il = [] ∧ p.nt = 0 ∧ w.heap.size ≤ p.Pb ∧ (∀ K, w'.heap.size ≤ K → PairI w.heap.size K w' p) ∧ Below w.heap.size w w' := by
 have hnw := fun w => new_any (fun _ => True) c hc r hr hrc w
 have hri := fun w => refright_any r w
 simp only [hr, decide_true] at hri
 have hrn := fun w => refnew_any (fun _ => True) c hc w
 rw [hrc] at *
 unfold cfgV at *
 have Hnw := hide hnw
 have Hri := hide hri
 have Hrn := hide hrn
 clear hnw hri hrn
 have hb1 := (Below.refl w.heap.size w).alloc (Nat.le_refl _) (.cells #[.int .i64 c.blocks, .int .i64 c.slots, .int .i64 c.layers, .int .i64 c.heads, .int .i64 c.pairs, .int .i64 c.vocab, .int .i64 c.seed] 23)
 have Hb1 := hide hb1
 have Hx0 := hide (alloc_new w (.cells #[.int .i64 c.blocks, .int .i64 c.slots, .int .i64 c.layers, .int .i64 c.heads, .int .i64 c.pairs, .int .i64 c.vocab, .int .i64 c.seed] 23))
 clear hb1
 go_enter Tryz.func8, Tryz.ntmps8
 go_wp2_with (first
   | (go_at_call 17; refine (Hnw.out _).mono ?_; rintro e w1 ⟨g, rfl, hgX, hheld, hb⟩; have x1 := (hb.block w.heap.size (by simp)).trans Hx0.out; obtain ⟨y0, y1, y2, y3, y4, y5, y6⟩ := cfg_cells x1; have Hx1 := hide x1; have Hb := hide hb; have Hheld := hide hheld; clear hb hheld x1)
   | (go_at_call 18; refine (Hri.out _).mono ?_; rintro e w2 ⟨rfl, hb2⟩; have x2 := (hb2.block w.heap.size (lt_blk Hx1.out)).trans Hx1.out; obtain ⟨z0, z1, z2, z3, z4, z5, z6⟩ := cfg_cells x2; have Hb2 := hide hb2; clear hb2 x2)
   | (go_at_call 19; refine (Hrn.out _).mono ?_; rintro e w3 ⟨Y, d, rfl, hY, href, hb3⟩; have Hb3 := hide hb3; have Href := hide href; clear hb3 href))
 go_ret2
 have h1 := Hb1.out.trans (Hb.out.mono (by simp))
 have h2 := h1.trans (Hb2.out.mono h1.size)
 have h3 := h2.trans (Hb3.out.mono h2.size)
 have hpb : Below w3.heap.size w3 (w3.alloc (.cells #[.pointer (some ⟨g.X, 0, none⟩), .pointer (some ⟨Y, 0, none⟩)] 46)) := (Below.refl _ _).alloc (Nat.le_refl _) _
 have hh2 := ((Hheld.out.below Hb2.out).below Hb3.out).below hpb
 have hr2 := Href.out.below hpb
 refine ⟨⟨w3.heap.size, g, Y, d, c, [], [], 0, .slice none 0 0, .slice none 0 0, fun k => (w.heap.size ≤ k ∧ k ≠ g.SM) ∧ k < (w3.alloc (.cells #[.pointer (some ⟨g.X, 0, none⟩), .pointer (some ⟨Y, 0, none⟩)] 46)).heap.size⟩, rfl, rfl, rfl, rfl, rfl, h3.size, fun K hK => ⟨alloc_new _ _, hc, ?_, hr2, fun k hk => ?_, ModelK.here hh2.model hK, fun k ⟨a, n, cp, e, _⟩ => by cases e⟩, h3.trans (hpb.mono h3.size)⟩
 · refine hh2.sub (fun k hk hF => ⟨⟨by have := h1.size; have := hF.1; simp at this; omega, hF.2⟩, hk⟩) (fun h => h.1.2 rfl)
 · rcases hk with (hk | hk) | hk | hk | ⟨a, n, cp, e, _⟩
   · exact ⟨hk.1.1, hk.2⟩
   · have hk' : k = g.SM := hk
     rw [hk']
     exact ⟨by have := hgX.2; simp at this; omega, hh2.sm.2⟩
   · have hk' : k = Y := hk
     rw [hk']
     exact ⟨by have := h2.size; omega, lt_blk hr2.obj⟩
   · cases hk
   · cases e
def XTo (ok : Nat → Prop) (w : World) (p : PD) (L' : List (Int × Key)) (il' : List (List Nat)) (w1 : World) : Prop :=
 Moves (fun k => p.F k ∨ k = p.g.SM) w w1 ∧ HoardI (grow p.F w) ok w1 p.g p.c L' il'
theorem HoardI.grown {F ok : Nat → Prop} {w : World} {g : Parts} {c : Cfg} {L : List (Int × Key)} {il : List (List Nat)} (h : HoardI F ok w g c L il) : HoardI (grow F w) ok w g c L il := h.fmono (fun _ hk => .inl hk) (not_grow_sm h.sm)
theorem XTo.same {ok : Nat → Prop} {w w1 : World} {p : PD} (h : HoardI p.F ok w p.g p.c p.L p.il) (hb : Below w.heap.size w w1) : XTo ok w p p.L p.il w1 :=
 ⟨Moves.of_below hb, h.grown.below hb⟩
theorem XTo.ref {ok ok' : Nat → Prop} {w w1 : World} {p : PD} {L' : List (Int × Key)} {il' : List (List Nat)} (h : XTo ok w p L' il' w1) (hr : RefI ok' w p.Y p.d p.c p.L p.il p.nt p.vL p.vI) (q : Nat) : RefI ok' (w1.drewN q) p.Y p.d p.c p.L p.il p.nt p.vL p.vI :=
 (hr.keep (h.1.kept _ (by unfold mutT; decide)) (h.1.kept _ (by unfold mutT; decide)) (h.1.kept _ (by unfold mutT; decide)) (h.1.kept _ (by unfold mutT; decide)) (h.1.kept _ (by unfold mutT; decide))).below (below_drewN (Below.refl _ _) q)
theorem RefTo.undraw {ok : Nat → Prop} {w w' : World} {Y d : Nat} {c : Cfg} {vL vI : Value} {L' : List (Int × Key)} {il' : List (List Nat)} {nt' q : Nat} (h : RefTo ok (w.drewN q) Y d c vL vI L' il' nt' w') : RefTo ok w Y d c vL vI L' il' nt' w' := by
 obtain ⟨h1, h2⟩ := h
 exact ⟨⟨h1.os, h1.tape, h1.output, h1.size, h1.block⟩, h2⟩
structure MidI (ok : Nat → Prop) (K : Nat) (w w2 : World) (p : PD) (L' : List (Int × Key)) (il' : List (List Nat)) (nt' : Nat) (vL' vI' : Value) : Prop where
 held : HoardI (grow p.F w) ok w2 p.g p.c L' il'
 ref : RefI ok w2 p.Y p.d p.c L' il' nt' vL' vI'
 own : ∀ k, RS p.Y vL' vI' k → RS p.Y p.vL p.vI k ∨ w.heap.size ≤ k
 at' : ∀ k, atB vI' k → atB p.vI k ∨ w.heap.size ≤ k
 only : Only (SP p) w w2
 keep : ∀ e, quietT e → KeepT e w w2
 keepI : ∀ k cur fr, ¬ atB p.vI k → w.heap[k]? = some (.cells cur 36 fr) → w2.heap[k]? = some (.cells cur 36 fr)
theorem low_of {K : Nat} {w w2 : World} {vI : Value} (hi : ∀ k, atB vI k → K ≤ k) (keep : ∀ e, quietT e → KeepT e w w2) (keepI : ∀ k cur fr, ¬ atB vI k → w.heap[k]? = some (.cells cur 36 fr) → w2.heap[k]? = some (.cells cur 36 fr)) :
   ∀ e k cur fr, modT e → k < K → w.heap[k]? = some (.cells cur e fr) → w2.heap[k]? = some (.cells cur e fr) := fun e k cur fr he hlt hh => by
 rcases he with rfl | rfl | rfl | rfl
 · exact keep _ (by unfold quietT mutT; decide) _ _ _ hh
 · exact keep _ (by unfold quietT mutT; decide) _ _ _ hh
 · exact keepI k cur fr (fun hv => by have := hi k hv; omega) hh
 · exact keep _ (by unfold quietT mutT; decide) _ _ _ hh
theorem mid_of {B0 K : Nat} {ok : Nat → Prop} {w w1 w2 : World} {p : PD} {L' : List (Int × Key)} {il' : List (List Nat)} {nt' : Nat} (hp : PairI B0 K w p) (hx : XTo ok w p L' il' w1) (hy : RefTo ok w1 p.Y p.d p.c p.vL p.vI L' il' nt' w2) : ∃ vL' vI', MidI ok K w w2 p L' il' nt' vL' vI' := by
 obtain ⟨hM, hH⟩ := hx
 obtain ⟨hO, vL', vI', hR, hs1, hs2⟩ := hy
 have hr1 := (XTo.ref ⟨hM, hH⟩ hp.ref 0)
 have hr1 : RefI (fun _ => True) w1 p.Y p.d p.c p.L p.il p.nt p.vL p.vI := hr1.below (w' := w1) ⟨rfl, rfl, rfl, Nat.le_refl _, fun _ _ => rfl⟩
 have k12 : ∀ e : TypeId, e ≠ 85 → e ≠ 113 → e ≠ 36 → KeepT e w1 w2 := fun e h1 h2 h3 => hO.keep (fun k cur fr hk hh => by
   obtain ⟨cur', e', q, he⟩ := hr1.kind hk
   rw [q] at hh; injection hh with hh; injection hh with _ hh _
   rcases he with he | he | he
   · exact h1 (by rw [← hh]; exact he)
   · exact h2 (by rw [← hh]; exact he)
   · exact h3 (by rw [← hh]; exact he))
 have k12I : ∀ k cur fr, ¬ atB p.vI k → w1.heap[k]? = some (.cells cur 36 fr) → w2.heap[k]? = some (.cells cur 36 fr) := fun k cur fr hk hh => by
   rw [hO.block k (lt_blk hh) (fun hx => ?_)]; exact hh
   rcases hx with hx | hx | ⟨a, n, cp, e, hx⟩
   · rw [hx, hr1.obj] at hh; injection hh with hh; injection hh with _ hh _; exact absurd hh (by decide)
   · obtain ⟨cur', q⟩ := hr1.own hx
     rw [q] at hh; injection hh with hh; injection hh with _ hh _; exact absurd hh (by decide)
   · exact hk ⟨a, n, cp, e, hx⟩
 have keep : ∀ e, quietT e → KeepT e w w2 := fun e he => (hM.kept e he.1).trans (k12 e he.2.1 he.2.2.1 he.2.2.2)
 have keepI : ∀ k cur fr, ¬ atB p.vI k → w.heap[k]? = some (.cells cur 36 fr) → w2.heap[k]? = some (.cells cur 36 fr) := fun k cur fr hk hh => k12I k cur fr hk (hM.kept _ (by unfold mutT; decide) _ _ _ hh)
 have hmk := hp.modK.move (low_of hp.hi keep keepI)
 have hsz := hM.size
 refine ⟨vL', vI', hH.only hO (fun k hlt hk => .inr ?_) hmk.model (k12 _ (by decide) (by decide) (by decide)) (fun b cur fr _ hh => k12 _ (by decide) (by decide) (by decide) _ _ _ hh), hR, fun k hk => (hs1 k hk).imp (fun q => q) (fun q => by omega), fun k hk => (hs2 k hk).imp (fun q => q) (fun q => by omega), (hM.only.mono (fun k _ hk => .inl hk)).trans hO (fun k _ hk => .inr hk), keep, keepI⟩
 obtain ⟨cur', e', q, he⟩ := hr1.kind hk
 refine ⟨cur', e', (0, 0), q, ?_⟩
 rcases he with rfl | rfl | rfl <;> (unfold mutT; decide)
theorem MidI.over {B0 K : Nat} {ok : Nat → Prop} {w w2 w3 : World} {p : PD} {L' : List (Int × Key)} {il' : List (List Nat)} {nt' b : Nat} {vL' vI' : Value} (hp : PairI B0 K w p) (h : MidI ok K w w2 p L' il' nt' vL' vI') (ho : Only (fun k => k = b) w2 w3) (hb : ∃ cur fr, w2.heap[b]? = some (.cells cur 3 fr)) (hok : ¬ ok b) (hnew : w.heap.size ≤ b) : MidI ok K w w3 p L' il' nt' vL' vI' := by
 obtain ⟨cur, fr, hb⟩ := hb
 have kp : ∀ e : TypeId, e ≠ 3 → KeepT e w2 w3 := fun e he => ho.keep (fun k cur' fr' hk hh => by
   subst hk
   rw [hb] at hh; injection hh with hh; injection hh with _ hh _; exact he hh.symm)
 have ki : ∀ k cur' fr', k ≠ b → w2.heap[k]? = some (.cells cur' 3 fr') → w3.heap[k]? = some (.cells cur' 3 fr') := fun k cur' fr' hk hh => by rw [ho.block k (lt_blk hh) hk]; exact hh
 have keep : ∀ e, quietT e → KeepT e w w3 := fun e he => by
   by_cases e1 : e = 3
   · subst e1
     intro k cur' fr' hh
     exact ki k cur' fr' (fun e => by have := lt_blk hh; omega) (h.keep _ he _ _ _ hh)
   · exact (h.keep e he).trans (kp e e1)
 have keepI : ∀ k cur fr, ¬ atB p.vI k → w.heap[k]? = some (.cells cur 36 fr) → w3.heap[k]? = some (.cells cur 36 fr) := fun k cur' fr' hk hh => kp _ (by decide) _ _ _ (h.keepI k cur' fr' hk hh)
 have hmk := hp.modK.move (low_of hp.hi keep keepI)
 have hint : KeepT 3 w w3 := keep _ (by unfold quietT mutT; decide)
 have far : ∀ {k : Nat} {e : TypeId} {c' : Array Value} {f' : Nat × Nat}, w2.heap[k]? = some (.cells c' e f') → e ≠ 3 → w3.heap[k]? = w2.heap[k]? := fun hh he => by rw [kp _ he _ _ _ hh, hh]
 refine ⟨h.held.only ho (fun k hlt hk => .inr ?_) hmk.model (kp _ (by decide)) (fun k cur' fr' hk hh => ki k cur' fr' (fun e => hok (e ▸ hk)) hh), h.ref.carry (far h.ref.obj (by decide)) (fun k hk => by obtain ⟨c', q⟩ := h.ref.own hk; exact far q (by decide)) (fun a n cp e => by obtain ⟨c', q⟩ := h.ref.idle.own e; exact far q (by decide)) (hp.ref.dec.keep (keep _ (by unfold quietT mutT; decide)) hint) (fun k cur' fr' hk hh => ki k cur' fr' (fun e => hok (e ▸ hk)) hh) (fun _ h => h), h.own, h.at', h.only.trans ho (fun k hlt hk => by omega), keep, keepI⟩
 subst hk
 exact ⟨cur, _, fr, hb, by unfold mutT; decide⟩
structure Moved (B0 K : Nat) (w : World) (p : PD) (w' : World) (p' : PD) : Prop where
 pb : p'.Pb = p.Pb
 pair : PairI B0 K w' p'
 nt : p'.nt ≤ p.nt + 1
 sub : ∀ k, SP p' k → SP p k ∨ w.heap.size ≤ k
 idle : ∀ k, atB p'.vI k → atB p.vI k ∨ w.heap.size ≤ k
 only : Only (SP p) w w'
 keep : ∀ e, quietT e → KeepT e w w'
 keepI : ∀ k cur fr, ¬ atB p.vI k → w.heap[k]? = some (.cells cur 36 fr) → w'.heap[k]? = some (.cells cur 36 fr)
theorem MidI.moved {B0 K : Nat} {ok : Nat → Prop} {w w2 : World} {p : PD} {L' : List (Int × Key)} {il' : List (List Nat)} {nt' : Nat} {vL' vI' : Value} (hp : PairI B0 K w p) (h : MidI ok K w w2 p L' il' nt' vL' vI') (hB0 : B0 ≤ w.heap.size) (hK : K ≤ w.heap.size) (hnt : nt' ≤ p.nt + 1) : ∃ p', Moved B0 K w p w2 p' := by
 have hsz := h.only.size
 have hsm := hp.held.sm
 have hr2 := h.ref.okmono (ok' := fun _ => True) (fun _ _ => trivial)
 have sub : ∀ k, ((grow p.F w k ∧ k < w2.heap.size) ∨ k = p.g.SM) ∨ RS p.Y vL' vI' k → SP p k ∨ w.heap.size ≤ k := fun k hk => by
   rcases hk with (⟨hk | hk, _⟩ | hk) | hk
   · exact .inl (.inl (.inl hk))
   · exact .inr hk
   · exact .inl (.inl (.inr hk))
   · exact (h.own k hk).imp (fun q => .inr q) (fun q => q)
 refine ⟨⟨p.Pb, p.g, p.Y, p.d, p.c, L', il', nt', vL', vI', fun k => grow p.F w k ∧ k < w2.heap.size⟩, rfl, ⟨h.keep _ (by unfold quietT mutT; decide) _ _ _ hp.obj, hp.cok, ?_, hr2, fun k hk => ?_, hp.modK.move (low_of hp.hi h.keep h.keepI), fun k hk => ?_⟩, hnt, sub, h.at', h.only, h.keep, h.keepI⟩
 · exact (h.held.okmono (fun _ _ => trivial)).sub (fun k hk hF => ⟨hF, hk⟩) (fun hF => not_grow_sm hsm hF.1)
 · refine ⟨?_, ?_⟩
   · rcases sub k hk with q | q
     · exact (hp.lo k q).1
     · omega
   · rcases hk with (hk | hk) | hk
     · exact hk.2
     · have hk' : k = p.g.SM := hk
       rw [hk']; have := hsm.2; omega
     · obtain ⟨cur, e, q, _⟩ := hr2.kind hk
       exact lt_blk q
 · rcases h.at' k hk with q | q
   · exact hp.hi k q
   · omega
theorem Moved.base {B0 K : Nat} {w w0 w' : World} {p p' : PD} (h : Moved B0 K w0 p w' p') (hb : Below w.heap.size w w0) : Moved B0 K w p w' p' :=
 ⟨h.pb, h.pair, h.nt, fun k hk => (h.sub k hk).imp (fun q => q) (fun q => Nat.le_trans hb.size q), fun k hk => (h.idle k hk).imp (fun q => q) (fun q => Nat.le_trans hb.size q), (Only.of_below hb _).trans h.only (fun _ _ q => q), fun e he => (KeepT.of_below hb).trans (h.keep e he), fun k cur fr hk hh => h.keepI k cur fr hk (KeepT.of_below hb k cur fr hh)⟩
theorem xfork (p : PD) (w : World) (hc : p.c.ok) (hH : HoardI p.F (fun _ => True) w p.g p.c p.L p.il) (hR : RefI (fun _ => True) w p.Y p.d p.c p.L p.il p.nt p.vL p.vI) (A Bv : Int) (hA : -9223372036854775808 ≤ A ∧ A ≤ 9223372036854775807) (hB : -9223372036854775808 ≤ Bv ∧ Bv ≤ 9223372036854775807) : ∃ (code : Nat) (L' : List (Int × Key)) (il' : List (List Nat)),
   (∀ q, Calls Tryz.prog 23 #[.pointer (some ⟨p.g.X, 0, none⟩), .int .i64 A, .int .i64 Bv] (w.drewN q) fun e w1 => e = .returned (.int .i64 code) ∧ XTo (fun _ => True) w p L' il' w1) ∧
   ∀ w1 q, XTo (fun _ => True) w p L' il' w1 → Calls Tryz.prog 24 #[.pointer (some ⟨p.Y, 0, none⟩), .int .i64 A, .int .i64 Bv] (w1.drewN q) fun e w2 => e = .returned (.int .i64 code) ∧ RefTo (fun _ => True) w1 p.Y p.d p.c p.vL p.vI L' il' p.nt w2 := by
 have hd : ∀ q, Below w.heap.size w (w.drewN q) := fun q => below_drewN (Below.refl _ _) q
 cases ha : assoc p.L A with
 | none =>
   refine ⟨3, p.L, p.il, fun q => ?_, fun w1 q hx => ?_⟩
   · refine (hfork_none p.F _ p.g p.c p.L p.il A Bv (w.drewN q) (hH.below (hd q)) hA hB ha).mono ?_
     rintro e w1 ⟨rfl, rfl⟩
     exact ⟨rfl, XTo.same hH (hd q)⟩
   · refine (reffork_none p.Y p.d p.c p.L _ p.il p.nt p.vL p.vI A Bv (w1.drewN q) (hx.ref hR q) ha).mono ?_
     rintro e w2 ⟨rfl, rfl⟩
     exact ⟨rfl, RefTo.undraw (q := q) (RefTo.of_ref (hx.ref hR q) (Only.refl _ _))⟩
 | some k0 =>
   obtain ⟨L1, L2, eL, hno⟩ := assoc_split ha
   by_cases hf : forkS p.L Bv = 0
   · refine ⟨0, p.L ++ [(Bv, k0)], p.il, fun q => ?_, fun w1 q hx => ?_⟩
     · refine (hfork_some p.F _ p.g p.c hc p.L p.il A Bv k0 (w.drewN q) (hH.below (hd q)) hA hB ha).mono ?_
       rintro e w1 ⟨rfl, ⟨h0, _⟩ | ⟨_, h1, h2⟩⟩
       · exact absurd hf h0
       · exact ⟨by rw [hf], ⟨⟨h1.only.os, h1.only.tape, h1.only.output, h1.only.size, h1.only.block⟩, h1.kept⟩, h2⟩
     · refine (reffork_some p.Y p.d p.c p.L L1 L2 _ p.il p.nt p.vL p.vI A Bv k0 (w1.drewN q) (hx.ref hR q) eL hno).mono ?_
       rintro e w2 ⟨rfl, ⟨h0, _⟩ | ⟨_, h1⟩⟩
       · exact absurd hf h0
       · exact ⟨by rw [hf], h1.undraw⟩
   · refine ⟨forkS p.L Bv, p.L, p.il, fun q => ?_, fun w1 q hx => ?_⟩
     · refine (hfork_some p.F _ p.g p.c hc p.L p.il A Bv k0 (w.drewN q) (hH.below (hd q)) hA hB ha).mono ?_
       rintro e w1 ⟨rfl, ⟨_, rfl⟩ | ⟨h0, _⟩⟩
       · exact ⟨rfl, XTo.same hH (hd q)⟩
       · exact absurd h0 hf
     · refine (reffork_some p.Y p.d p.c p.L L1 L2 _ p.il p.nt p.vL p.vI A Bv k0 (w1.drewN q) (hx.ref hR q) eL hno).mono ?_
       rintro e w2 ⟨rfl, ⟨_, rfl⟩ | ⟨h0, _⟩⟩
       · exact ⟨rfl, RefTo.undraw (q := q) (RefTo.of_ref (hx.ref hR q) (Only.refl _ _))⟩
       · exact absurd h0 hf
theorem xfree (p : PD) (w : World) (hc : p.c.ok) (hH : HoardI p.F (fun _ => True) w p.g p.c p.L p.il) (hR : RefI (fun _ => True) w p.Y p.d p.c p.L p.il p.nt p.vL p.vI) (A : Int) (hA : -9223372036854775808 ≤ A ∧ A ≤ 9223372036854775807) : ∃ (code : Nat) (L' : List (Int × Key)) (il' : List (List Nat)),
   (∀ q, Calls Tryz.prog 26 #[.pointer (some ⟨p.g.X, 0, none⟩), .int .i64 A] (w.drewN q) fun e w1 => e = .returned (.int .i64 code) ∧ XTo (fun _ => True) w p L' il' w1) ∧
   ∀ w1 q, XTo (fun _ => True) w p L' il' w1 → Calls Tryz.prog 27 #[.pointer (some ⟨p.Y, 0, none⟩), .int .i64 A] (w1.drewN q) fun e w2 => e = .returned (.int .i64 code) ∧ RefTo (fun _ => True) w1 p.Y p.d p.c p.vL p.vI L' il' p.nt w2 := by
 have hd : ∀ q, Below w.heap.size w (w.drewN q) := fun q => below_drewN (Below.refl _ _) q
 cases ha : assoc p.L A with
 | none =>
   refine ⟨3, p.L, p.il, fun q => ?_, fun w1 q hx => ?_⟩
   · refine (hfree_none p.F _ p.g p.c p.L p.il A (w.drewN q) (hH.below (hd q)) hA ha).mono ?_
     rintro e w1 ⟨rfl, rfl⟩
     exact ⟨rfl, XTo.same hH (hd q)⟩
   · refine (reffree_none p.Y p.d p.c p.L _ p.il p.nt p.vL p.vI A (w1.drewN q) (hx.ref hR q) ha).mono ?_
     rintro e w2 ⟨rfl, rfl⟩
     exact ⟨rfl, RefTo.undraw (q := q) (RefTo.of_ref (hx.ref hR q) (Only.refl _ _))⟩
 | some k0 =>
   obtain ⟨L1, L2, eL, hno⟩ := assoc_split ha
   have hil := hH.ilen hc
   refine ⟨0, L1 ++ L2, p.il ++ leftOf p.c.slots ((L1 ++ L2).map (·.2)) k0, fun q => ?_, fun w1 q hx => ?_⟩
   · have hH' := hH.below (hd q)
     rw [eL] at hH' ha
     refine (hfree_some p.F _ p.g p.c hc L1 L2 p.il A k0 (w.drewN q) hH' hA ha).mono ?_
     rintro e w1 ⟨rfl, h1, h2⟩
     exact ⟨rfl, ⟨⟨h1.only.os, h1.only.tape, h1.only.output, h1.only.size, h1.only.block⟩, h1.kept⟩, h2⟩
   · have hR' := hx.ref hR q
     rw [eL] at hR'
     refine (reffree_some p.Y p.d p.c hc L1 L2 _ p.il p.nt p.vL p.vI A k0 (w1.drewN q) hR' hno (by omega)).mono ?_
     rintro e w2 ⟨rfl, h1⟩
     exact ⟨rfl, h1.undraw⟩
theorem xevict (p : PD) (w : World) (hc : p.c.ok) (hH : HoardI p.F (fun _ => True) w p.g p.c p.L p.il) (hR : RefI (fun _ => True) w p.Y p.d p.c p.L p.il p.nt p.vL p.vI) (A : Int) : ∃ (code : Nat) (L' : List (Int × Key)) (il' : List (List Nat)),
   (∀ q, Calls Tryz.prog 28 #[.pointer (some ⟨p.g.X, 0, none⟩), .int .i64 A] (w.drewN q) fun e w1 => e = .returned (.int .i64 code) ∧ XTo (fun _ => True) w p L' il' w1) ∧
   ∀ w1 q, XTo (fun _ => True) w p L' il' w1 → Calls Tryz.prog 29 #[.pointer (some ⟨p.Y, 0, none⟩), .int .i64 A] (w1.drewN q) fun e w2 => e = .returned (.int .i64 code) ∧ RefTo (fun _ => True) w1 p.Y p.d p.c p.vL p.vI L' il' p.nt w2 := by
 have hd : ∀ q, Below w.heap.size w (w.drewN q) := fun q => below_drewN (Below.refl _ _) q
 refine ⟨evN A p.il, p.L, p.il.drop (evN A p.il), fun q => ?_, fun w1 q hx => ?_⟩
 · refine (hevict_any p.F _ p.g p.c hc p.L p.il A (w.drewN q) (hH.below (hd q))).mono ?_
   rintro e w1 ⟨rfl, h1, h2⟩
   have h1' := h1.mono (F' := fun k => p.F k ∨ k = p.g.SM) (fun k _ hk => .inl hk)
   exact ⟨rfl, ⟨⟨h1'.only.os, h1'.only.tape, h1'.only.output, h1'.only.size, h1'.only.block⟩, h1'.kept⟩, h2⟩
 · refine (refevict_any p.Y p.d p.c p.L _ p.il p.nt p.vL p.vI A (w1.drewN q) (hx.ref hR q)).mono ?_
   rintro e w2 ⟨rfl, h1, vI', h2, h3⟩
   refine ⟨rfl, RefTo.undraw (q := q) ⟨h1.mono (fun k _ hk => .inl hk), p.vL, vI', h2, fun k hk => .inl ?_, fun k hk => .inl (h3 k hk)⟩⟩
   rcases hk with hk | hk | hk
   · exact .inl hk
   · exact .inr (.inl hk)
   · exact .inr (.inr (h3 k hk))
open Classical in
theorem xcreate (ok : Nat → Prop) (p : PD) (w : World) (hc : p.c.ok) (hH : HoardI p.F ok w p.g p.c p.L p.il) (hR : RefI ok w p.Y p.d p.c p.L p.il p.nt p.vL p.vI) (hok : ∀ b, w.heap.size ≤ b → ok b) (hnt : p.nt ≤ 5000000000000) (A : Int) (hA : -9223372036854775808 ≤ A ∧ A ≤ 9223372036854775807) (n : Nat) (f : Nat → Int) : ∃ (code : Nat) (L' : List (Int × Key)) (il' : List (List Nat)),
   (∀ q vt, Ints w vt n f → Calls Tryz.prog 14 #[.pointer (some ⟨p.g.X, 0, none⟩), .int .i64 A, vt] (w.drewN q) fun e w1 => e = .returned (.int .i64 code) ∧ XTo ok w p L' il' w1) ∧
   ∀ w1 q vt, XTo ok w p L' il' w1 → Ints w1 vt n f → Calls Tryz.prog 44 #[.pointer (some ⟨p.Y, 0, none⟩), .int .i64 A, vt] (w1.drewN q) fun e w2 => e = .returned (.int .i64 code) ∧ ∃ nt', nt' ≤ p.nt + 1 ∧ RefTo ok w1 p.Y p.d p.c p.vL p.vI L' il' nt' w2 := by
 have hd : ∀ q, Below w.heap.size w (w.drewN q) := fun q => below_drewN (Below.refl _ _) q
 obtain ⟨hpu, hfr⟩ := hH.pureOf
 obtain ⟨_, _, _, p4⟩ := put_fresh p.c hc p.L p.il (natsOf n f) p.nt hR.tails (fun x hx => List.length_pos_iff.1 (hR.len x hx).1) hpu hfr
 by_cases h0 : createS p.c p.L p.il A n f = 0
 · refine ⟨0, p.L ++ [(A, endKey p.c.slots (natsOf n f) (p.nt + 1))], ilS p.c ([], 0) (p.L.map (·.2)) p.il (natsOf n f), fun q vt ht => ?_, fun w1 q vt hx ht => ?_⟩
   · refine (hcreate_any p.F ok p.g p.c hc p.L p.il A n f vt (p.nt + 1) (w.drewN q) (hH.below (hd q)) hA (ht.below (hd q)) ⟨by omega, p4⟩ hok).mono ?_
     rintro e w1 ⟨rfl, ⟨h, _⟩ | ⟨_, h1, h2⟩⟩
     · exact absurd h0 h
     · exact ⟨by rw [h0], ⟨⟨h1.only.os, h1.only.tape, h1.only.output, h1.only.size, h1.only.block⟩, h1.kept⟩, h2⟩
   · have hs := hx.1.size
     refine (refcreate_any p.Y p.d n p.c hc A f vt p.L ok p.il p.nt p.vL p.vI (w1.drewN q) (hx.ref hR q) (ht.below (below_drewN (Below.refl _ _) q)) hnt (fun b hb => hok b (by simp at hb; omega)) hpu hfr).mono ?_
     rintro e w2 ⟨rfl, nt', hn, ⟨h, _⟩ | ⟨_, h1⟩⟩
     · exact absurd h0 h
     · exact ⟨by rw [h0], nt', hn, h1.undraw⟩
 · refine ⟨createS p.c p.L p.il A n f, p.L, p.il, fun q vt ht => ?_, fun w1 q vt hx ht => ?_⟩
   · refine (hcreate_any p.F ok p.g p.c hc p.L p.il A n f vt (p.nt + 1) (w.drewN q) (hH.below (hd q)) hA (ht.below (hd q)) ⟨by omega, p4⟩ hok).mono ?_
     rintro e w1 ⟨rfl, ⟨_, h1⟩ | ⟨h, _⟩⟩
     · exact ⟨rfl, XTo.same hH ⟨h1.os, h1.tape, h1.output, h1.size, h1.block⟩⟩
     · exact absurd h h0
   · have hs := hx.1.size
     refine (refcreate_any p.Y p.d n p.c hc A f vt p.L ok p.il p.nt p.vL p.vI (w1.drewN q) (hx.ref hR q) (ht.below (below_drewN (Below.refl _ _) q)) hnt (fun b hb => hok b (by simp at hb; omega)) hpu hfr).mono ?_
     rintro e w2 ⟨rfl, nt', hn, ⟨_, h1⟩ | ⟨h, _⟩⟩
     · exact ⟨rfl, nt', hn, h1.undraw⟩
     · exact absurd h h0
open Classical in
theorem xappend (ok : Nat → Prop) (p : PD) (w : World) (hc : p.c.ok) (hH : HoardI p.F ok w p.g p.c p.L p.il) (hR : RefI ok w p.Y p.d p.c p.L p.il p.nt p.vL p.vI) (hok : ∀ b, w.heap.size ≤ b → ok b) (hnt : p.nt ≤ 5000000000000) (A : Int) (hA : -9223372036854775808 ≤ A ∧ A ≤ 9223372036854775807) (n : Nat) (hnb : n ≤ 100000000000000) (f : Nat → Int) : ∃ (code : Nat) (L' : List (Int × Key)) (il' : List (List Nat)),
   (∀ q vt, Ints w vt n f → Calls Tryz.prog 45 #[.pointer (some ⟨p.g.X, 0, none⟩), .int .i64 A, vt] (w.drewN q) fun e w1 => e = .returned (.int .i64 code) ∧ XTo ok w p L' il' w1) ∧
   ∀ w1 q vt, XTo ok w p L' il' w1 → Ints w1 vt n f → Calls Tryz.prog 46 #[.pointer (some ⟨p.Y, 0, none⟩), .int .i64 A, vt] (w1.drewN q) fun e w2 => e = .returned (.int .i64 code) ∧ ∃ nt', nt' ≤ p.nt + 1 ∧ RefTo ok w1 p.Y p.d p.c p.vL p.vI L' il' nt' w2 := by
 have hd : ∀ q, Below w.heap.size w (w.drewN q) := fun q => below_drewN (Below.refl _ _) q
 obtain ⟨hpu, hfr⟩ := hH.pureOf
 cases ha : assoc p.L A with
 | none =>
   refine ⟨3, p.L, p.il, fun q vt ht => ?_, fun w1 q vt hx ht => ?_⟩
   · refine (happend_none p.F _ p.g p.c p.L p.il A vt (w.drewN q) (hH.below (hd q)) hA ha).mono ?_
     rintro e w1 ⟨rfl, rfl⟩
     exact ⟨rfl, XTo.same hH (hd q)⟩
   · refine (refappend_none p.Y p.d n p.c A f vt p.L _ p.il p.nt p.vL p.vI (w1.drewN q) (hx.ref hR q) (ht.below (below_drewN (Below.refl _ _) q)) ha).mono ?_
     rintro e w2 ⟨rfl, hb⟩
     exact ⟨rfl, p.nt, by omega, RefTo.undraw (q := q) (RefTo.of_ref ((hx.ref hR q).below hb) (Only.of_below hb _))⟩
 | some k0 =>
   obtain ⟨L1, L2, eL, hno⟩ := assoc_split ha
   have hH' := fun q => hH.below (hd q)
   have hR0 := hR
   have hpu' := hpu
   have hfr' := hfr
   rw [eL] at hH' ha hR0 hpu' hfr'
   by_cases h0 : appendS p.c k0 ((L1 ++ L2).map (·.2)) p.il n f = 0 ∧ n ≠ 0
   · obtain ⟨h0, hn0⟩ := h0
     have hpre : k0.1 <+: k0.1 ++ natsOf n f := List.prefix_append _ _
     obtain ⟨_, _, p3, p4, _⟩ := put_old p.c hc L1 L2 p.il A k0 (k0.1 ++ natsOf n f) p.nt hR0.tails (fun x hx => List.length_pos_iff.1 (hR0.len x hx).1) hpu' hpre hfr'
     refine ⟨0, L1 ++ (A, endKey p.c.slots (k0.1 ++ natsOf n f) (putTn p.c (L1 ++ (A, k0) :: L2) p.il k0 (k0.1 ++ natsOf n f) p.nt)) :: L2, ilS p.c k0 ((L1 ++ L2).map (·.2)) p.il (k0.1 ++ natsOf n f), fun q vt ht => ?_, fun w1 q vt hx ht => ?_⟩
     · refine (happend_some p.F ok p.g p.c hc L1 L2 p.il A k0 n f vt _ (w.drewN q) (hH' q) hA ha (ht.below (hd q)) ⟨p3, p4⟩ hok).mono ?_
       rintro e w1 ⟨rfl, ⟨h | h, _⟩ | ⟨_, _, h1, h2⟩⟩
       · exact absurd h0 h
       · exact absurd h hn0
       · exact ⟨by rw [h0], ⟨⟨h1.only.os, h1.only.tape, h1.only.output, h1.only.size, h1.only.block⟩, h1.kept⟩, h2⟩
     · have hs := hx.1.size
       have hR' := hx.ref hR q
       rw [eL] at hR'
       refine (refappend_some p.Y p.d n p.c hc A f vt L1 L2 ok p.il p.nt p.vL p.vI k0 (w1.drewN q) hR' hno (ht.below (below_drewN (Below.refl _ _) q)) hnb hnt (fun b hb => hok b (by simp at hb; omega)) hpu' hfr').mono ?_
       rintro e w2 ⟨rfl, nt', hn, ⟨h | h, _⟩ | ⟨_, _, h1⟩⟩
       · exact absurd h0 h
       · exact absurd h hn0
       · exact ⟨by rw [h0], nt', hn, h1.undraw⟩
   · have hor : appendS p.c k0 ((L1 ++ L2).map (·.2)) p.il n f ≠ 0 ∨ n = 0 := by
       by_cases e : n = 0
       · exact .inr e
       · exact .inl (fun h => h0 ⟨h, e⟩)
     obtain ⟨tn, htn1, htn2⟩ : ∃ tn, tn ≠ 0 ∧ ∀ h ∈ (L1 ++ L2).map (·.2), h.2 ≠ tn := ⟨p.nt + 1, by omega, fun h hh => by
       obtain ⟨y, hy, rfl⟩ := List.mem_map.1 hh
       have := hR0.tails.le y (by rcases List.mem_append.1 hy with hy | hy <;> simp [hy])
       omega⟩
     refine ⟨appendS p.c k0 ((L1 ++ L2).map (·.2)) p.il n f, p.L, p.il, fun q vt ht => ?_, fun w1 q vt hx ht => ?_⟩
     · refine (happend_some p.F ok p.g p.c hc L1 L2 p.il A k0 n f vt tn (w.drewN q) (hH' q) hA ha (ht.below (hd q)) ⟨htn1, htn2⟩ hok).mono ?_
       rintro e w1 ⟨rfl, ⟨_, h1⟩ | ⟨h, h', _⟩⟩
       · exact ⟨rfl, XTo.same hH ⟨h1.os, h1.tape, h1.output, h1.size, h1.block⟩⟩
       · exact absurd ⟨h, h'⟩ h0
     · have hs := hx.1.size
       have hR' := hx.ref hR q
       rw [eL] at hR'
       refine (refappend_some p.Y p.d n p.c hc A f vt L1 L2 ok p.il p.nt p.vL p.vI k0 (w1.drewN q) hR' hno (ht.below (below_drewN (Below.refl _ _) q)) hnb hnt (fun b hb => hok b (by simp at hb; omega)) hpu' hfr').mono ?_
       rintro e w2 ⟨rfl, nt', hn, ⟨_, h1⟩ | ⟨h, h', _⟩⟩
       · rw [← eL] at h1
         exact ⟨rfl, nt', hn, h1.undraw⟩
       · exact absurd ⟨h, h'⟩ h0
theorem op_cells {w : World} {b : Nat} {a0 a1 a2 a3 a4 a5 : Value} {t : TypeId} {fr : Nat × Nat} (h : w.heap[b]? = some (.cells #[a0, a1, a2, a3, a4, a5] t fr)) :
   w.cell? ⟨b, 0, none⟩ = some a0 ∧ w.cell? ⟨b, 1, none⟩ = some a1 ∧ w.cell? ⟨b, 2, none⟩ = some a2 ∧ w.cell? ⟨b, 3, none⟩ = some a3 ∧ w.cell? ⟨b, 4, none⟩ = some a4 ∧ w.cell? ⟨b, 5, none⟩ = some a5 := by
 refine ⟨?_, ?_, ?_, ?_, ?_, ?_⟩ <;> (rw [cell_blk h]; rfl)
theorem pair_cells {w : World} {b : Nat} {a0 a1 : Value} {t : TypeId} {fr : Nat × Nat} (h : w.heap[b]? = some (.cells #[a0, a1] t fr)) : w.cell? ⟨b, 0, none⟩ = some a0 ∧ w.cell? ⟨b, 1, none⟩ = some a1 := by
 refine ⟨?_, ?_⟩ <;> (rw [cell_blk h]; rfl)
theorem MidI.base {ok : Nat → Prop} {K : Nat} {w w1 w2 : World} {p : PD} {L' : List (Int × Key)} {il' : List (List Nat)} {nt' : Nat} {vL' vI' : Value} (h : MidI ok K w1 w2 p L' il' nt' vL' vI') (hb : Below w.heap.size w w1) (hsm : ¬ p.F p.g.SM ∧ p.g.SM < w.heap.size) : MidI ok K w w2 p L' il' nt' vL' vI' :=
 ⟨h.held.fmono (fun _k hk => hk.elim .inl (fun q => .inr (Nat.le_trans hb.size q))) (not_grow_sm hsm), h.ref, fun k hk => (h.own k hk).imp (fun q => q) (fun q => Nat.le_trans hb.size q), fun k hk => (h.at' k hk).imp (fun q => q) (fun q => Nat.le_trans hb.size q), (Only.of_below hb _).trans h.only (fun _ _ q => q), fun e he => (KeepT.of_below hb).trans (h.keep e he), fun k cur fr hk hh => h.keepI k cur fr hk (KeepT.of_below hb k cur fr hh)⟩
def ArgI (B0 : Nat) (w : World) (v : Value) (n : Nat) (f : Nat → Int) : Prop :=
 (v = .slice none 0 0 ∧ n = 0) ∨ ∃ (a : Addr) (cap : Nat), v = .slice (some a) n cap ∧ n ≤ cap ∧ cap ≤ maxLen ∧ n * 8 ≤ 140737488351232 ∧ ∀ j, j < n → a.spot = none ∧ a.block < B0 ∧ w.cell? ⟨a.block, a.off + j, none⟩ = some (.int .i64 (f j))
theorem ArgI.ints {B0 : Nat} {w : World} {v : Value} {n : Nat} {f : Nat → Int} (h : ArgI B0 w v n f) (hB : B0 ≤ w.heap.size) : Ints w v n f := by
 rcases h with ⟨rfl, rfl⟩ | ⟨a, cap, rfl, h1, h2, h3, h4⟩
 · exact ⟨none, 0, rfl, by omega, by simp [maxLen], fun h => absurd h (by omega)⟩
 · refine ⟨some a, cap, rfl, h1, h2, fun hn => ?_⟩
   obtain ⟨q1, q2, _⟩ := h4 0 hn
   obtain ⟨b, off, sp⟩ := a
   simp only at q1 q2 h4
   subst q1
   exact ⟨b, off, rfl, by omega, fun j hj => (h4 j hj).2.2⟩
theorem ArgI.keep {B0 : Nat} {w w' : World} {v : Value} {n : Nat} {f : Nat → Int} (h : ArgI B0 w v n f) (hk : ∀ k, k < B0 → w'.heap[k]? = w.heap[k]?) : ArgI B0 w' v n f := by
 rcases h with h | ⟨a, cap, e, h1, h2, h3, h4⟩
 · exact .inl h
 · refine .inr ⟨a, cap, e, h1, h2, h3, fun j hj => ?_⟩
   obtain ⟨q1, q2, q3⟩ := h4 j hj
   exact ⟨q1, q2, (World.cell?_of_block (w := w) (a := ⟨a.block, a.off + j, none⟩) (hk _ q2)).trans q3⟩
theorem ArgI.slice {B0 : Nat} {w : World} {v : Value} {n : Nat} {f : Nat → Int} (h : ArgI B0 w v n f) : ∃ a cap, v = .slice a n cap := by
 rcases h with ⟨rfl, rfl⟩ | ⟨a, cap, rfl, _⟩
 · exact ⟨_, _, rfl⟩
 · exact ⟨_, _, rfl⟩
def RoomI (base : Nat) (w : World) (r v : Value) (n : Nat) (f : Nat → Int) : Prop :=
 (v = .slice none 0 0 ∧ n = 0 ∧ r = .slice none 0 0) ∨ ∃ g c a cap, v = .slice (some a) n cap ∧ r = .slice (some ⟨g, 0, none⟩) n c ∧ w.ownsRow base 3 1 (.slice (some ⟨g, 0, none⟩) (n + 8) c) (n + 8) ((List.range (n + 8)).map fun j => .int .i64 (marked n f j))
theorem RoomI.slice {base : Nat} {w : World} {r v : Value} {n : Nat} {f : Nat → Int} (h : RoomI base w r v n f) : ∃ a cap, r = .slice a n cap := by
 rcases h with ⟨_, rfl, rfl⟩ | ⟨g, c, a, cap, _, rfl, _⟩
 · exact ⟨_, _, rfl⟩
 · exact ⟨_, _, rfl⟩
theorem RoomI.ints {base : Nat} {w : World} {r v : Value} {n : Nat} {f : Nat → Int} (h : RoomI base w r v n f) : IntsT w r n f := by
 rcases h with ⟨_, rfl, rfl⟩ | ⟨g, c, a, cap, _, rfl, h⟩
 · exact ⟨none, 0, rfl, by omega, by simp [maxLen], fun h => absurd h (by omega)⟩
 · have q := (IntsT.of_owns h).sub 0 n (by omega)
   simp only [Nat.add_zero, Nat.sub_zero, Nat.zero_add] at q
   exact q.congr (fun j hj => by unfold marked; rw [if_pos hj])
theorem RoomI.keep {base : Nat} {w w' : World} {r v : Value} {n : Nat} {f : Nat → Int} (h : RoomI base w r v n f) (hk : KeepT 3 w w') : RoomI base w' r v n f := by
 rcases h with h | ⟨g, c, a, cap, h1, h2, h3⟩
 · exact .inl h
 · exact .inr ⟨g, c, a, cap, h1, h2, owns_keepT h3 hk⟩
theorem roomy_all (B0 : Nat) (v : Value) (n : Nat) (f : Nat → Int) (w : World) (h : ArgI B0 w v n f) (hB : B0 ≤ w.heap.size) :
   Calls Tryz.prog 43 #[v] w fun e w' => ∃ r, e = .returned r ∧ RoomI w.heap.size w' r v n f ∧ Below w.heap.size w w' := by
 rcases h with ⟨rfl, rfl⟩ | ⟨a, cap, rfl, h1, h2, h3, h4⟩
 · refine (roomy_nil w).mono ?_
   rintro e w' ⟨rfl, rfl⟩
   exact ⟨_, rfl, .inl ⟨rfl, rfl, rfl⟩, Below.refl _ _⟩
 · refine (roomy_any n cap a f w (fun j hj => ?_) h3).mono ?_
   · obtain ⟨q1, q2, q3⟩ := h4 j hj
     obtain ⟨b, off, sp⟩ := a
     simp only at q1 q3
     subst q1
     have e : (⟨b, off, none⟩ : Addr).add j = ⟨b, off + j, none⟩ := by unfold Addr.add; split <;> simp_all
     rw [e]; exact q3
   · rintro e w' ⟨g, c, rfl, q1, q2⟩
     exact ⟨_, rfl, .inr ⟨g, c, a, cap, rfl, rfl, q1⟩, q2⟩
theorem kept_all (B0 base : Nat) (r v : Value) (n : Nat) (f : Nat → Int) (w : World) (h : ArgI B0 w v n f) (hr : RoomI base w r v n f) :
   Calls Tryz.prog 47 #[r, v] w fun e w' => e = .returned (.bool true) ∧ w' = w := by
 rcases h with ⟨rfl, rfl⟩ | ⟨a, cap, rfl, h1, h2, h3, h4⟩
 · rcases hr with ⟨_, _, rfl⟩ | ⟨g, c, a, cap, e, _⟩
   · exact kept_nil w
   · cases e
 · rcases hr with ⟨e, _⟩ | ⟨g, c, a', cap', e, rfl, q⟩
   · cases e
   · exact kept_any n g c cap a f w (IntsT.of_owns q) (fun j hj => ⟨(h4 j hj).1, (h4 j hj).2.2⟩) h3 (owns_cap q).1
set_option maxRecDepth 100000 in
set_option maxHeartbeats 4000000 in
theorem puts_Create (B0 K : Nat) (p : PD) (w : World) (hp : PairI B0 K w p) (hB0 : B0 ≤ w.heap.size) (hK : K ≤ w.heap.size) (H A Bv C : Int) (vT : Value) (n : Nat) (f : Nat → Int) (hT : ArgI B0 w vT n f) (hA : -9223372036854775808 ≤ A ∧ A ≤ 9223372036854775807) (hnt : p.nt ≤ 5000000000000) :
   Calls Tryz.prog 20 #[.pointer (some ⟨p.Pb, 0, none⟩), .agg #[.int .i64 H, .int .i64 1, .int .i64 A, .int .i64 Bv, .int .i64 C, vT]] w fun e w' => e = .returned (.bool true) ∧ ∃ p', Moved B0 K w p w' p' := by
 obtain ⟨w0, hw0⟩ : ∃ w0, w0 = w.alloc (.cells #[.int .i64 H, .int .i64 1, .int .i64 A, .int .i64 Bv, .int .i64 C, vT] 38) := ⟨_, rfl⟩
 have hb0 : Below w.heap.size w w0 := by rw [hw0]; exact (Below.refl _ _).alloc (Nat.le_refl _) _
 have x0 : w0.heap[w.heap.size]? = some (.cells #[.int .i64 H, .int .i64 1, .int .i64 A, .int .i64 Bv, .int .i64 C, vT] 38 (0, 0)) := by rw [hw0]; exact alloc_new _ _
 have hs0 := hb0.size
 have hroomy := roomy_all B0 vT n f w0 (hT.keep (fun k hk => hb0.block k (by omega))) (by omega)
 have hp0 := hp.below hb0
 have hnb : n ≤ 100000000000000 := by
   rcases hT with ⟨_, rfl⟩ | ⟨_, _, _, _, _, h, _⟩ <;> omega
 -- both calls
 have hboth : ∀ w1, Below w0.heap.size w0 w1 → ∃ (code : Nat) (L' : List (Int × Key)) (il' : List (List Nat)),
     (∀ q vt, Ints w1 vt n f → Calls Tryz.prog 14 #[.pointer (some ⟨p.g.X, 0, none⟩), .int .i64 A, vt] (w1.drewN q) fun e w2 => e = .returned (.int .i64 code) ∧ XTo (fun b => b < w0.heap.size ∨ w1.heap.size ≤ b) w1 p L' il' w2) ∧
     ∀ w2 q, XTo (fun b => b < w0.heap.size ∨ w1.heap.size ≤ b) w1 p L' il' w2 → Calls Tryz.prog 44 #[.pointer (some ⟨p.Y, 0, none⟩), .int .i64 A, vT] (w2.drewN q) fun e w3 => e = .returned (.int .i64 code) ∧ ∃ nt' vL' vI', nt' ≤ p.nt + 1 ∧ MidI (fun b => b < w0.heap.size ∨ w1.heap.size ≤ b) K w1 w3 p L' il' nt' vL' vI' := fun w1 hb1 => by
   have s1 := hb1.size
   obtain ⟨code, L', il', hX, hY⟩ := xcreate (fun b => b < w0.heap.size ∨ w1.heap.size ≤ b) p w1 hp.cok (((hp0.held.and_old hp.cok).below hb1).okmono (fun b hb => .inl hb.2)) ((hp0.ref.old.below hb1).okmono (fun b hb => .inl hb)) (fun b hb => .inr hb) hnt A hA n f
   refine ⟨code, L', il', hX, fun w2 q hx => ?_⟩
   have hlow : ∀ k, k < B0 → w2.heap[k]? = w.heap[k]? := fun k hk => by
     rw [hx.1.only.block k (by omega) (fun hF => by have := (hp.lo k (.inl hF)).1; omega), hb1.block k (by omega), hb0.block k (by omega)]
   have s2 := hx.1.size
   refine (hY w2 q vT hx ((hT.keep hlow).ints (by omega))).mono ?_
   rintro e w3 ⟨rfl, nt', hn, hr⟩
   obtain ⟨vL', vI', hm⟩ := mid_of (hp0.below hb1) hx hr
   exact ⟨rfl, nt', vL', vI', hn, hm⟩
 have hkept : ∀ w1 w3 r L' il' nt' vL' vI', Below w0.heap.size w0 w1 → RoomI w0.heap.size w1 r vT n f → MidI (fun b => b < w0.heap.size ∨ w1.heap.size ≤ b) K w1 w3 p L' il' nt' vL' vI' → Calls Tryz.prog 47 #[r, vT] w3 fun e w' => e = .returned (.bool true) ∧ w' = w3 := fun w1 w3 r L' il' nt' vL' vI' hb1 hr hm => by
   refine kept_all B0 w0.heap.size r vT n f w3 (hT.keep (fun k hk => ?_)) (hr.keep (hm.keep _ (by unfold quietT mutT; decide)))
   have s1 := hb1.size
   rw [hm.only.block k (by omega) (fun hF => by have := (hp.lo k hF).1; omega), hb1.block k (by omega), hb0.block k (by omega)]
 have hfin : ∀ w1 w3 w4 r L' il' nt' vL' vI', Below w0.heap.size w0 w1 → RoomI w0.heap.size w1 r vT n f → nt' ≤ p.nt + 1 → MidI (fun b => b < w0.heap.size ∨ w1.heap.size ≤ b) K w1 w3 p L' il' nt' vL' vI' → Only (fun b => r.ownBlock = some b) w3 w4 → ∃ p', Moved B0 K w p w4 p' := fun w1 w3 w4 r L' il' nt' vL' vI' hb1 hr hn hm ho => by
   have hm0 := hm.base hb1 ⟨hp0.held.sm.1, hp0.held.sm.2⟩
   have hsm0 := hp0.held.sm
   have hm4 : MidI (fun b => b < w0.heap.size ∨ w1.heap.size ≤ b) K w0 w4 p L' il' nt' vL' vI' := by
     rcases hr with ⟨_, _, rfl⟩ | ⟨g', c', a', cap', ev, rfl, hrow⟩
     · have ho' : Only (fun _ => False) w3 w4 := ho.mono (fun k _ hk => by cases hk)
       have hbw : Below w3.heap.size w3 w4 := ⟨ho'.os, ho'.tape, ho'.output, ho'.size, fun k hk => ho'.block k hk (fun h => h)⟩
       exact ⟨hm0.held.below hbw, hm0.ref.below hbw, hm0.own, hm0.at', hm0.only.trans ho' (fun _ _ h => h.elim), fun e he => (hm0.keep e he).trans (KeepT.of_below hbw), fun k cur fr hk hh => KeepT.of_below hbw _ _ _ (hm0.keepI k cur fr hk hh)⟩
     · obtain ⟨q1, q2⟩ := hrow.lt g' rfl
       have hrow3 := owns_keepT hrow (hm.keep 3 (by unfold quietT mutT; decide))
       refine hm0.over (b := g') hp0 (ho.mono (fun k _ hk => by injection hk with hk; exact hk.symm)) ?_ (by omega) (by omega)
       obtain ⟨_, ⟨e1, _⟩ | ⟨g3, cap3, cur3, e3, _, hh, _⟩⟩ := hrow3
       · cases e1
       · injection e3 with e3 _ _
         injection e3 with e3
         injection e3 with e3 _ _
         exact ⟨cur3, (0, 0), by rw [e3]; exact hh⟩
   obtain ⟨p', h⟩ := hm4.moved hp0 (by omega) (by omega) hn
   exact ⟨p', h.base hb0⟩
 obtain ⟨aT, cT, eT⟩ := hT.slice
 have hobj0 := (hb0.block _ (lt_blk hp.obj)).trans hp.obj
 have HW0 := hide hw0
 have Hroomy := hide hroomy
 have Hboth := hide hboth
 have Hkept := hide hkept
 have Hfin := hide hfin
 have HeT := hide eT
 have Hx0 := hide x0
 have Hobj0 := hide hobj0
 have Hb0 := hide hb0
 clear hw0 hroomy hboth hkept hfin hp hp0 hT eT x0 hobj0 hb0
 go_enter Tryz.func20, Tryz.ntmps20
 go_wp2_with (first
   | (go_at_call 43; rw [← HW0.out]; refine Hroomy.out.mono ?_; rintro e w1 ⟨r, rfl, hroom, hb1⟩; obtain ⟨y0, y1, y2, y3, y4, y5⟩ := op_cells ((hb1.block _ (lt_blk Hx0.out)).trans Hx0.out); obtain ⟨u0, u1⟩ := pair_cells ((hb1.block _ (lt_blk Hobj0.out)).trans Hobj0.out); obtain ⟨code, L', il', hX, hY⟩ := Hboth.out w1 hb1; have HX := hide hX; have HY := hide hY; have Hb1 := hide hb1; have Hroom := hide hroom; clear hb1 hroom hX hY))
 go_region_held3 (fun w' => w'.cell? ⟨p.Pb, 0, none⟩ = some (.pointer (some ⟨p.g.X, 0, none⟩)) ∧ w'.cell? ⟨w.heap.size, 2, none⟩ = some (.int .i64 A)) (go_keep)
   (first | (go_at_call 14; refine (HX.out 1 r Hroom.out.ints.ints).mono ?_; rintro e w2 ⟨rfl, h2⟩; obtain ⟨z0, z1, z2, z3, z4, z5⟩ := op_cells (h2.1.kept 38 (by unfold mutT; decide) _ _ _ ((Hb1.out.block _ (lt_blk Hx0.out)).trans Hx0.out)); obtain ⟨t0, t1⟩ := pair_cells (h2.1.kept 46 (by unfold mutT; decide) _ _ _ ((Hb1.out.block _ (lt_blk Hobj0.out)).trans Hobj0.out)); have H2 := hide h2; clear h2))
 go_wp2
 go_region_held3 (fun w' => w'.cell? ⟨p.Pb, 1, none⟩ = some (.pointer (some ⟨p.Y, 0, none⟩)) ∧ w'.cell? ⟨w.heap.size, 2, none⟩ = some (.int .i64 A) ∧ w'.cell? ⟨w.heap.size, 5, none⟩ = some vT) (go_keep)
   (first | (go_at_call 44; refine (HY.out w2 1 H2.out).mono ?_; rintro e w3 ⟨rfl, nt', vL', vI', hn', h3⟩; obtain ⟨m0, m1, m2, m3, m4, m5⟩ := op_cells (h3.keep 38 (by unfold quietT mutT; decide) _ _ _ ((Hb1.out.block _ (lt_blk Hx0.out)).trans Hx0.out)); obtain ⟨v0, v1⟩ := pair_cells (h3.keep 46 (by unfold quietT mutT; decide) _ _ _ ((Hb1.out.block _ (lt_blk Hobj0.out)).trans Hobj0.out)); have H3 := hide h3; clear h3))
 all_goals (
   obtain ⟨ra, rc, er⟩ := Hroom.out.slice
   subst er
   have hlen : n ≤ 9223372036854775807 := by
     obtain ⟨_, c', e, q1, q2, _⟩ := Hroom.out.ints
     unfold maxLen at q2
     omega
   have hroom3 := Hroom.out.keep (H3.out.keep _ (by unfold quietT mutT; decide))
   have Hroom3 := hide hroom3
   clear hroom3
   go_wp2_with (go_at_call 47; refine (Hkept.out w1 w3 _ _ _ _ _ _ Hb1.out Hroom.out H3.out).mono ?_; rintro e w9 ⟨rfl, e9⟩; have e9' := e9.symm; clear e9; subst e9')
   go_loopw [9] (fun i wr => ∃ k : Nat, k ≤ n ∧ i = .int .i64 k ∧ Hid (Only (fun b => (Value.slice ra n rc).ownBlock = some b) w3 wr ∧ RoomI w0.heap.size wr (.slice ra n rc) vT n (fun j => if j < k then 0 else f j))) (fun i _ => n - (intOf i).toNat)
   case atStart => exact ⟨0, Nat.zero_le _, rfl, (Only.refl _ _), by simpa using Hroom3.out⟩
   case round =>
     obtain ⟨k, hk, rfl, Hinv⟩ := hrel
     by_cases hlt : k < n
     · obtain ⟨hO, hroomk⟩ := Hinv.out
       rcases hroomk with ⟨_, e, _⟩ | ⟨g', c', a', cap', ev, er, hrow⟩
       · omega
       · injection er with er1 _ er3
         subst er1 er3
         rcases OwnI.of_owns hrow with ⟨_, h0⟩ | ⟨b, cap, e, ho⟩
         · omega
         · injection e with e1 _ e3
           injection e1 with e1
           injection e1 with e1 _ _
           subst e1 e3
           have c0 := ho.cell k (by omega)
           have f0 := ho.frozen k
           have hset := (ho.set k 0).owns
           have e9 : (List.range (n + 8)).map (fun j => Value.int .i64 (if j = k then 0 else marked n (fun j => if j < k then 0 else f j) j)) = (List.range (n + 8)).map (fun j => Value.int .i64 (marked n (fun j => if j < k + 1 then 0 else f j) j)) := by
             apply List.map_congr_left
             intro j _
             unfold marked
             by_cases h1 : j = k
             · rw [if_pos h1, if_pos (by omega)]; simp only [if_pos (show j < k + 1 by omega)]
             · rw [if_neg h1]
               by_cases h2 : j < k
               · simp only [if_pos (show j < n by omega), if_pos h2, if_pos (show j < k + 1 by omega)]
               · simp only [if_neg h2, if_neg (show ¬ j < k + 1 by omega)]
           rw [e9] at hset
           have hroom' : RoomI w0.heap.size (wr.setCell ⟨g', k, none⟩ (.int .i64 0)) (.slice (some ⟨g', 0, none⟩) n rc) vT n (fun j => if j < k + 1 then 0 else f j) := .inr ⟨g', rc, a', cap', ev, rfl, hset⟩
           have hO' := hO.setCell (p := ⟨g', k, none⟩) (fun _ => rfl) (.int .i64 0)
           have Hroom' := hide hroom'
           have HO' := hide hO'
           clear hroom' hO' hset e9 ho hrow
           go_wp2
           go_roundw
           case rel => exact ⟨k + 1, by omega, by go_num, HO'.out, Hroom'.out⟩
           case measure => simp [intOf]; omega
     · go_wp2
       go_ret
       exact ⟨rfl, Hfin.out w1 w3 wr _ _ _ _ _ _ Hb1.out Hroom.out hn' H3.out Hinv.out.1⟩)
end Go.Proofs.YtlmflighkkgikaaGreat
