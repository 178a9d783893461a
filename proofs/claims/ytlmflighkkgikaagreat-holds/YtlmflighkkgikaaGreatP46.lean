import Derived.Test.YtlmflighkkgikaaGreatP43
import Derived.Test.YtlmflighkkgikaaGreatP44

namespace Go.Proofs.YtlmflighkkgikaaGreat
open Go.RowKit
attribute [local go_sem ↓] Go.wp_at_zero Go.wp_at_succ
theorem EntryI.blk {w : World} {e : Value} {m : Int} (h : EntryI w e m) : ∃ b cur fr, e = .slice (some ⟨b, 0, none⟩) 4 4 ∧ w.heap[b]? = some (.cells cur 36 fr) := by
 obtain ⟨b, s, fr, e', hb, _⟩ := h
 exact ⟨b, _, fr, e', hb⟩
theorem BookI.keepE {w w' : World} {B n : Nat} {vl : Value} (h : BookI w B n vl) (h0 : KeepT 35 w w') (h1 : KeepT 62 w w') (h2 : ∀ b cur fr, BookE w n vl b → w.heap[b]? = some (.cells cur 36 fr) → w'.heap[b]? = some (.cells cur 36 fr)) (h3 : KeepT 3 w w') : BookI w' B n vl ∧ ∀ b, BookE w' n vl b → BookE w n vl b := by
 have hown := h
 obtain ⟨hB, es, hrow, hes⟩ := h
 have hcell : ∀ i, i < n → ∃ g, vl.ownBlock = some g ∧ w.cell? ⟨g, i, none⟩ = some (es i) := fun i hi => by
   obtain ⟨g, hg⟩ : ∃ g, vl.ownBlock = some g := by
     obtain ⟨_, ⟨_, e⟩ | ⟨g, _, _, e, _⟩⟩ := hrow
     · omega
     · exact ⟨g, by rw [e]; rfl⟩
   exact ⟨g, hg, owns_cell' hrow hg (by simp [hi])⟩
 refine ⟨⟨h0 _ _ _ hB, es, ?_, fun i hi => ?_⟩, fun b ⟨g, i, hg, hi, hc⟩ => ?_⟩
 · obtain ⟨q1, q2 | ⟨g, cap, cur, e', hg, hh, rest⟩⟩ := hrow
   · exact ⟨q1, .inl q2⟩
   · exact ⟨q1, .inr ⟨g, cap, cur, e', hg, h1 _ _ _ hh, rest⟩⟩
 · obtain ⟨b, s, fr, e, hb, hs⟩ := hes i hi
   obtain ⟨g, hg, hc⟩ := hcell i hi
   exact ⟨b, s, fr, e, h2 b _ fr ⟨g, i, hg, hi, by rw [hc, e]⟩ hb, fun k hk => (hs k hk).keep h3⟩
 · obtain ⟨cur, fr, q⟩ := hown.own hg
   exact ⟨g, i, hg, hi, (World.cell?_of_block (w := w) (a := ⟨g, i, none⟩) (by rw [h1 _ _ _ q, q])).symm.trans hc⟩
structure Stepped (B0 K : Nat) (w : World) (p : PD) (B N : Nat) (vl : Value) (w' : World) (p' : PD) (N' : Nat) (vl' : Value) : Prop where
 pb : p'.Pb = p.Pb
 pair : PairI B0 K w' p'
 nt : p'.nt ≤ p.nt + 1
 sub : ∀ k, SP p' k → SP p k ∨ w.heap.size ≤ k
 idle : ∀ k, atB p'.vI k → atB p.vI k ∨ w.heap.size ≤ k
 book : BookI w' B N' vl'
 more : N' ≤ N + 2
 own : ∀ k, vl'.ownBlock = some k → vl.ownBlock = some k ∨ w.heap.size ≤ k
 ent : ∀ b, BookE w' N' vl' b → BookE w N vl b ∨ w.heap.size ≤ b
 apart : ∀ b, BookE w' N' vl' b → ¬ atB p'.vI b
 only : Only (fun k => SP p k ∨ k = B ∨ vl.ownBlock = some k) w w'
 keep : ∀ e, stillT e → KeepT e w w'
 keepI : ∀ k cur fr, ¬ atB p.vI k → w.heap[k]? = some (.cells cur 36 fr) → w'.heap[k]? = some (.cells cur 36 fr)
theorem Stepped.base {B0 K : Nat} {w w0 w' : World} {p p' : PD} {B N N' : Nat} {vl vl' : Value} (h : Stepped B0 K w0 p B N vl w' p' N' vl') (hb : Below w.heap.size w w0) (hlt : ∀ g, vl.ownBlock = some g → g < w.heap.size) : Stepped B0 K w p B N vl w' p' N' vl' :=
 ⟨h.pb, h.pair, h.nt, fun k hk => (h.sub k hk).imp (fun q => q) (fun q => Nat.le_trans hb.size q), fun k hk => (h.idle k hk).imp (fun q => q) (fun q => Nat.le_trans hb.size q), h.book, h.more, fun k hk => (h.own k hk).imp (fun q => q) (fun q => Nat.le_trans hb.size q), fun b hk => (h.ent b hk).imp (BookE.below hb hlt) (fun q => Nat.le_trans hb.size q), h.apart, (Only.of_below hb _).trans h.only (fun _ _ q => q), fun e he => (KeepT.of_below hb).trans (h.keep e he), fun k cur fr hk hh => h.keepI k cur fr hk (KeepT.of_below hb k cur fr hh)⟩
theorem BookE.lt {w : World} {B N : Nat} {vl : Value} (h : BookI w B N vl) {b : Nat} (hb : BookE w N vl b) : b < w.heap.size := by
 obtain ⟨g, i, hg, hi, hc⟩ := hb
 obtain ⟨_, es, hrow, hes⟩ := h
 have q := owns_cell' hrow hg (j := i) (u := es i) (by simp [hi])
 rw [q] at hc
 injection hc with hc
 obtain ⟨b', cur, fr, e, hh⟩ := (hes i hi).blk
 rw [e] at hc
 injection hc with hc _ _
 injection hc with hc
 injection hc with hc _ _
 rw [← hc]; exact lt_blk hh
theorem BookI.ownlt {w : World} {B N : Nat} {vl : Value} (h : BookI w B N vl) (g : Nat) (hg : vl.ownBlock = some g) : g < w.heap.size := by
 obtain ⟨_, _, q⟩ := h.own hg
 exact lt_blk q
theorem Moved.step {B0 K : Nat} {w w' : World} {p p' : PD} {B N : Nat} {vl : Value} (h : Moved B0 K w p w' p') (hbk : BookI w B N vl) (hE : ∀ b, BookE w N vl b → ¬ atB p.vI b) : Stepped B0 K w p B N vl w' p' N vl := by
 obtain ⟨h1, h2⟩ := hbk.keepE (h.keep _ (by unfold quietT mutT; decide)) (h.keep _ (by unfold quietT mutT; decide)) (fun b cur fr hb hh => h.keepI b cur fr (hE b hb) hh) (h.keep _ (by unfold quietT mutT; decide))
 refine ⟨h.pb, h.pair, h.nt, h.sub, h.idle, h1, by omega, fun k hk => .inl hk, fun b hb => .inl (h2 b hb), fun b hb hv => ?_, h.only.mono (fun k _ hk => .inl hk), fun e he => h.keep e he.quiet, h.keepI⟩
 rcases h.idle b hv with q | q
 · exact hE b (h2 b hb) q
 · have := BookE.lt hbk (h2 b hb); omega
theorem Asked.step {B0 K : Nat} {w w' : World} {p : PD} {B N : Nat} {vl : Value} (hp : PairI B0 K w p) (hbk : BookI w B N vl) (hE : ∀ b, BookE w N vl b → ¬ atB p.vI b) (h : Asked w B N vl w') : ∃ N' vl', Stepped B0 K w p B N vl w' p N' vl' := by
 obtain ⟨N', vl', h1, h2, h3, h4, h5⟩ := h
 have hty : ∀ k, k = B ∨ vl.ownBlock = some k → ∃ cur e fr, w.heap[k]? = some (.cells cur e fr) ∧ (e = 35 ∨ e = 62) := fun k hk => by
   rcases hk with rfl | hk
   · exact ⟨_, _, _, hbk.1, .inl rfl⟩
   · obtain ⟨cur, fr, q⟩ := hbk.own hk
     exact ⟨_, _, _, q, .inr rfl⟩
 have hk : ∀ e, e ≠ 35 → e ≠ 62 → KeepT e w w' := fun e e1 e2 => h4.keep (fun k cur fr hk hh => by
   obtain ⟨cur', e', fr', q, q'⟩ := hty k hk
   rw [q] at hh; injection hh with hh; injection hh with _ hh _
   rcases q' with q' | q'
   · exact e1 (hh ▸ q')
   · exact e2 (hh ▸ q'))
 refine ⟨N', vl', rfl, hp.only h4 (fun k _ hh => .inr ?_) (fun e he => hk e he.2.2.2.1 he.2.2.2.2.1) (fun k cur fr _ hh => hk _ (by decide) (by decide) _ _ _ hh), by omega, fun k hk => .inl hk, fun k hk => .inl hk, h2, h1, h3, h5, fun b hb hv => ?_, h4.mono (fun k _ hk => .inr hk), fun e he => hk e he.2.2.2.1 he.2.2.2.2.1, fun k cur fr _ hh => hk _ (by decide) (by decide) _ _ _ hh⟩
 · obtain ⟨cur', e', fr', q, q'⟩ := hty k hh
   refine ⟨cur', e', fr', q, ?_⟩
   rcases q' with rfl | rfl
   · unfold mutT; decide
   · unfold mutT; decide
 · rcases h5 b hb with q | q
   · exact hE b q hv
   · have := (hp.lo b (.inr (.inr (.inr hv)))).2; omega
theorem mid_book {B0 K : Nat} {ok : Nat → Prop} {w w2 w3 : World} {p : PD} {L' : List (Int × Key)} {il' : List (List Nat)} {nt' : Nat} {vL' vI' : Value} {B N N' : Nat} {vl vl' r : Value} (hp : PairI B0 K w p) (hB0 : B0 ≤ w.heap.size) (hK : K ≤ w.heap.size) (hbk : BookI w B N vl) (hE : ∀ b, BookE w N vl b → ¬ atB p.vI b)
   (h : MidI ok K w w2 p L' il' nt' vL' vI') (hnt : nt' ≤ p.nt + 1) (ho : Only (fun k => k = B ∨ vl.ownBlock = some k ∨ r.ownBlock = some k) w2 w3) (hr : ∀ b, r.ownBlock = some b → ¬ ok b ∧ w.heap.size ≤ b ∧ ∃ cur fr, w2.heap[b]? = some (.cells cur 3 fr))
   (q1 : BookI w3 B N' vl') (q2 : N' ≤ N + 2) (q3 : ∀ k, vl'.ownBlock = some k → vl.ownBlock = some k ∨ w2.heap.size ≤ k) (q4 : ∀ b, BookE w3 N' vl' b → BookE w2 N vl b ∨ w2.heap.size ≤ b) : ∃ p' N'' vl'', Stepped B0 K w p B N vl w3 p' N'' vl'' := by
 obtain ⟨b1, b2⟩ := hbk.keepE (h.keep _ (by unfold quietT mutT; decide)) (h.keep _ (by unfold quietT mutT; decide)) (fun b cur fr hb hh => h.keepI b cur fr (hE b hb) hh) (h.keep _ (by unfold quietT mutT; decide))
 have hs2 := h.only.size
 have hty : ∀ k, (k = B ∨ vl.ownBlock = some k ∨ r.ownBlock = some k) → ∃ cur e fr, w2.heap[k]? = some (.cells cur e fr) ∧ (e = 35 ∨ e = 62 ∨ (e = 3 ∧ ¬ ok k ∧ w.heap.size ≤ k)) := fun k hk => by
   rcases hk with rfl | hk | hk
   · exact ⟨_, _, _, b1.1, .inl rfl⟩
   · obtain ⟨cur, fr, q⟩ := b1.own hk
     exact ⟨_, _, _, q, .inr (.inl rfl)⟩
   · obtain ⟨u1, u2, cur, fr, q⟩ := hr k hk
     exact ⟨_, _, _, q, .inr (.inr ⟨rfl, u1, u2⟩)⟩
 have kp : ∀ e : TypeId, e ≠ 3 → e ≠ 35 → e ≠ 62 → KeepT e w2 w3 := fun e h1 h2 h3 => ho.keep (fun k cur fr hk hh => by
   obtain ⟨cur', e', fr', q, he⟩ := hty k hk
   rw [q] at hh; injection hh with hh; injection hh with _ hh _
   rcases he with he | he | ⟨he, _⟩
   · exact h2 (hh ▸ he)
   · exact h3 (hh ▸ he)
   · exact h1 (hh ▸ he))
 have ki : ∀ k cur fr, (ok k ∨ k < w.heap.size) → w2.heap[k]? = some (.cells cur 3 fr) → w3.heap[k]? = some (.cells cur 3 fr) := fun k cur fr hk hh => by
   rw [ho.block k (lt_blk hh) (fun hx => ?_)]; exact hh
   obtain ⟨cur', e', fr', q, he⟩ := hty k hx
   rw [q] at hh; injection hh with hh; injection hh with _ hh _
   rcases he with he | he | ⟨_, u1, u2⟩
   · rw [he] at hh; exact absurd hh (by decide)
   · rw [he] at hh; exact absurd hh (by decide)
   · rcases hk with hk | hk
     · exact u1 hk
     · omega
 have keep : ∀ e, stillT e → KeepT e w w3 := fun e he => by
   by_cases e1 : e = 3
   · subst e1
     intro k cur fr hh
     exact ki k cur fr (.inr (lt_blk hh)) (h.keep _ he.quiet _ _ _ hh)
   · exact (h.keep e he.quiet).trans (kp e e1 he.2.2.2.1 he.2.2.2.2.1)
 have keepI : ∀ k cur fr, ¬ atB p.vI k → w.heap[k]? = some (.cells cur 36 fr) → w3.heap[k]? = some (.cells cur 36 fr) := fun k cur fr hk hh => kp _ (by decide) (by decide) (by decide) _ _ _ (h.keepI k cur fr hk hh)
 have hlow : ∀ e k cur fr, modT e → k < K → w.heap[k]? = some (.cells cur e fr) → w3.heap[k]? = some (.cells cur e fr) := fun e k cur fr he hlt hh => by
   rcases he with rfl | rfl | rfl | rfl
   · exact keep _ (by unfold stillT mutT; decide) _ _ _ hh
   · exact keep _ (by unfold stillT mutT; decide) _ _ _ hh
   · exact keepI k cur fr (fun hv => by have := hp.hi k hv; omega) hh
   · exact keep _ (by unfold stillT mutT; decide) _ _ _ hh
 have hmk := hp.modK.move hlow
 have far : ∀ {k : Nat} {e : TypeId} {c' : Array Value} {f' : Nat × Nat}, w2.heap[k]? = some (.cells c' e f') → e ≠ 3 → e ≠ 35 → e ≠ 62 → w3.heap[k]? = w2.heap[k]? := fun hh e1 e2 e3 => by rw [kp _ e1 e2 e3 _ _ _ hh, hh]
 have held3 : HoardI (grow p.F w) ok w3 p.g p.c L' il' := h.held.only ho (fun k hlt hk => .inr (by
   obtain ⟨cur', e', fr', q, he⟩ := hty k hk
   refine ⟨cur', e', fr', q, ?_⟩
   rcases he with rfl | rfl | ⟨rfl, _⟩ <;> (unfold mutT; decide))) hmk.model (kp _ (by decide) (by decide) (by decide)) (fun k cur fr hk hh => ki k cur fr (.inl hk) hh)
 have ref3 : RefI ok w3 p.Y p.d p.c L' il' nt' vL' vI' := h.ref.carry (far h.ref.obj (by decide) (by decide) (by decide)) (fun k hk => by obtain ⟨c', q⟩ := h.ref.own hk; exact far q (by decide) (by decide) (by decide)) (fun a n cp e => by obtain ⟨c', q⟩ := h.ref.idle.own e; exact far q (by decide) (by decide) (by decide)) (hp.ref.dec.keep (keep _ (by unfold stillT mutT; decide)) (keep _ (by unfold stillT mutT; decide))) (fun k cur fr hk hh => ki k cur fr (.inl hk) hh) (fun _ h => h)
 have hsz := ho.size
 have hsm := hp.held.sm
 have hr3 := ref3.okmono (ok' := fun _ => True) (fun _ _ => trivial)
 have hr2 := h.ref.okmono (ok' := fun _ => True) (fun _ _ => trivial)
 have sub : ∀ k, ((grow p.F w k ∧ k < w2.heap.size) ∨ k = p.g.SM) ∨ RS p.Y vL' vI' k → SP p k ∨ w.heap.size ≤ k := fun k hk => by
   rcases hk with (⟨hk | hk, _⟩ | hk) | hk
   · exact .inl (.inl (.inl hk))
   · exact .inr hk
   · exact .inl (.inl (.inr hk))
   · exact (h.own k hk).imp (fun q => .inr q) (fun q => q)
 have at2 : ∀ k, atB vI' k → k < w2.heap.size := fun k hk => by
   obtain ⟨cur, e, q, _⟩ := hr2.kind (k := k) (.inr (.inr hk))
   exact lt_blk q
 -- footprint blocks of w2 lie below its end
 have held3' : HoardI (fun k => grow p.F w k ∧ k < w2.heap.size) (fun _ => True) w3 p.g p.c L' il' := by
   have h2' : HoardI (fun k => grow p.F w k ∧ k < w2.heap.size) ok w2 p.g p.c L' il' := h.held.sub (fun k hk hF => ⟨hF, hk⟩) (fun hF => not_grow_sm hsm hF.1)
   exact (h2'.only ho (fun k hlt hk => .inr (by
     obtain ⟨cur', e', fr', q, he⟩ := hty k hk
     refine ⟨cur', e', fr', q, ?_⟩
     rcases he with rfl | rfl | ⟨rfl, _⟩ <;> (unfold mutT; decide))) hmk.model (kp _ (by decide) (by decide) (by decide)) (fun k cur fr hk hh => ki k cur fr (.inl hk) hh)).okmono (fun _ _ => trivial)
 refine ⟨⟨p.Pb, p.g, p.Y, p.d, p.c, L', il', nt', vL', vI', fun k => grow p.F w k ∧ k < w2.heap.size⟩, N', vl', rfl, ⟨keep _ (by unfold stillT mutT; decide) _ _ _ hp.obj, hp.cok, held3', hr3, fun k hk => ?_, hmk, fun k hk => ?_⟩, hnt, sub, h.at', q1, q2, fun k hk => (q3 k hk).imp (fun q => q) (fun q => by omega), fun b hb => (q4 b hb).imp (b2 b) (fun q => by omega), fun b hb hv => ?_, ?_, keep, keepI⟩
 · refine ⟨?_, ?_⟩
   · rcases sub k hk with q | q
     · exact (hp.lo k q).1
     · omega
   · rcases hk with (hk | hk) | hk
     · have := hk.2; omega
     · have hk' : k = p.g.SM := hk
       rw [hk']; have := hsm.2; omega
     · obtain ⟨cur, e, q, _⟩ := hr3.kind hk
       exact lt_blk q
 · rcases h.at' k hk with q | q
   · exact hp.hi k q
   · omega
 · rcases q4 b hb with q | q
   · rcases h.at' b hv with u | u
     · exact hE b (b2 b q) u
     · have := BookE.lt hbk (b2 b q); omega
   · have := at2 b hv; omega
 · refine (h.only.mono (F' := fun k => SP p k ∨ k = B ∨ vl.ownBlock = some k) (fun k _ hk => .inl hk)).trans ho (fun k hlt hk => ?_)
   rcases hk with hk | hk | hk
   · exact .inr (.inl hk)
   · exact .inr (.inr hk)
   · have := (hr k hk).2.1; omega
def aliveR : Raw := ⟨4, 2, 1, 1, 1, 4, 0⟩
def aliveT : Nat → Int := fun j => if j = 0 then 0 else if j = 1 then 1 else 2
theorem alive_ints (w : World) : IntsT (w.alloc (.cells #[.int .i64 0, .int .i64 1, .int .i64 2] 3)) (.slice (some ⟨w.heap.size, 0, none⟩) 3 3) 3 aliveT := by
 refine ⟨_, 3, rfl, by omega, by simp [maxLen], fun _ => ⟨w.heap.size, 0, _, _, rfl, alloc_new w _, fun j hj => ?_⟩⟩
 match j, hj with
 | 0, _ => rfl
 | 1, _ => rfl
 | 2, _ => rfl
theorem alive_code : createS aliveR.cfg [] [] 1 3 aliveT = 0 := by
 unfold createS
 rw [if_neg (by simp [assoc_nil]), if_neg (by simp), if_neg ?_, if_neg (by omega), if_neg ?_]
 · intro h
   have : ¬ fullS aliveR.cfg ([], 0) (([] : List (Int × Key)).map (·.2)) [] [0, 1, 2] := by decide +kernel
   exact this h
 · rintro ⟨j, hj, hb⟩
   unfold badTok aliveT aliveR at hb
   simp only [Raw.cfg] at hb
   match j, hj with
   | 0, _ => revert hb; decide
   | 1, _ => revert hb; decide
   | 2, _ => revert hb; decide
set_option maxRecDepth 100000 in
set_option maxHeartbeats 4000000 in
theorem alive_any (w : World) : Calls Tryz.prog 7 #[] w fun e w' => e = .returned (.bool true) ∧ Below w.heap.size w w' := by
 have hright : aliveR.right := by unfold Raw.right aliveR; decide
 have hcok : aliveR.cfg.ok := Raw.cfg_ok hright (by unfold aliveR; decide)
 have hmd := made_any aliveR.cfg hcok aliveR hright rfl w
 have hraw : aliveR.agg = .agg #[.int .i64 4, .int .i64 2, .int .i64 1, .int .i64 1, .int .i64 1, .int .i64 4, .int .i64 0] := rfl
 rw [hraw] at hmd
 have hcr : ∀ p w1, PairI w.heap.size w1.heap.size w1 p → p.c = aliveR.cfg → p.L = [] → p.il = [] → Calls Tryz.prog 14 #[.pointer (some ⟨p.g.X, 0, none⟩), .int .i64 1, .slice (some ⟨w1.heap.size, 0, none⟩) 3 3] (w1.alloc (.cells #[.int .i64 0, .int .i64 1, .int .i64 2] 3)) fun e w2 => e = .returned (.int .i64 0) ∧ Below w.heap.size w1 w2 ∧ KeepT 46 w1 w2 ∧ ∃ F il, HoardI F (fun _ => True) w2 p.g aliveR.cfg [(1, endKey 2 (natsOf 3 aliveT) 1)] il := fun p w1 hp hpc hpL hpI => by
   have hb : Below w1.heap.size w1 (w1.alloc (.cells #[.int .i64 0, .int .i64 1, .int .i64 2] 3)) := (Below.refl _ _).alloc (Nat.le_refl _) _
   have hheld := hp.held.below hb
   rw [hpc, hpL, hpI] at hheld
   refine (hcreate_any p.F _ p.g aliveR.cfg hcok [] [] 1 3 aliveT _ 1 _ hheld (by omega) (alive_ints w1).ints ⟨by omega, fun h hh => by simp at hh⟩ (fun _ _ => trivial)).mono ?_
   rintro e w2 ⟨he, ⟨h, _⟩ | ⟨_, hM, hH⟩⟩
   · exact absurd alive_code h
   · rw [alive_code] at he
     have hlo := hp.lo
     have hsz : w.heap.size ≤ w1.heap.size := by have := (hp.lo _ (.inr (.inl rfl))); omega
     refine ⟨he, ⟨hM.only.os, hM.only.tape, hM.only.output, by have := hM.only.size; simp at this; omega, fun k hk => ?_⟩, (KeepT.alloc _ _).trans (hM.kept _ (by unfold mutT; decide)), _, _, hH⟩
     rw [hM.only.block k (by simp; omega) (fun hF => by have := (hp.lo k (.inl hF)).1; omega)]
     exact alloc_old _ _ _ (by omega)
 have hsm : ∀ w2 w3 r, Below w2.heap.size w2 w3 → w3.ownsRow w2.heap.size 3 1 r 3 ((List.range 3).map fun j => .int .i64 (tkI (natsOf 3 aliveT) j)) → Calls Tryz.prog 16 #[r, .slice (some ⟨w3.heap.size, 0, none⟩) 3 3] (w3.alloc (.cells #[.int .i64 0, .int .i64 1, .int .i64 2] 3)) fun e w' => e = .returned (.bool true) ∧ ∃ q, w' = (w3.alloc (.cells #[.int .i64 0, .int .i64 1, .int .i64 2] 3)).drewN q := fun w2 w3 r hb hr => by
   have h1 := (IntsT.of_owns (hr.alloc (.cells #[.int .i64 0, .int .i64 1, .int .i64 2] 3))).ints
   refine (lawsame_any _ _ _ _ _ _ _ h1 ((alive_ints w3).congr (g := fun j => tkI (natsOf 3 aliveT) j) (fun j hj => by
     match j, hj with
     | 0, _ => rfl
     | 1, _ => rfl
     | 2, _ => rfl)).ints).mono ?_
   rintro e w' ⟨rfl, hq⟩
   rw [sameI_refl]
   exact ⟨rfl, hq⟩
 have htk : ∀ (p : Parts) w2, (∃ F il, HoardI F (fun _ => True) w2 p aliveR.cfg [(1, endKey 2 (natsOf 3 aliveT) 1)] il) → Calls Tryz.prog 15 #[.pointer (some ⟨p.X, 0, none⟩), .int .i64 1] w2 fun e w3 => ∃ r, e = .returned (.tuple #[r, .int .i64 0]) ∧ w3.ownsRow w2.heap.size 3 1 r 3 ((List.range 3).map fun j => .int .i64 (tkI (natsOf 3 aliveT) j)) ∧ Below w2.heap.size w2 w3 := fun p w2 ⟨F, il, hr⟩ =>
   htokens_some F (fun _ => True) p aliveR.cfg hcok _ il 1 (endKey 2 (natsOf 3 aliveT) 1) w2 hr (by omega) (by rw [assoc_cons, if_pos rfl])
 have Hmd := hide hmd
 have Hcr := hide hcr
 have Hsm := hide hsm
 have Htk := hide htk
 clear hmd hcr hsm htk
 go_enter Tryz.func7, Tryz.ntmps7
 go_wp2_with (first
   | (go_at_call 8; refine Hmd.out.mono ?_; rintro e w1 ⟨p, rfl, hpc, hpL, hpI, hpn, hpb, hp, hb1⟩; have hp := hp _ (Nat.le_refl _); obtain ⟨u0, u1⟩ := pair_cells hp.obj; have hPl := lt_blk hp.obj; have Hp := hide hp; have Hb1 := hide hb1; have Hpc := hide hpc; have HpL := hide hpL; have HpI := hide hpI; clear hp hb1 hpc hpL hpI)
   | (go_at_call 14; refine (Hcr.out p w1 Hp.out Hpc.out HpL.out HpI.out).mono ?_; rintro e w2 ⟨rfl, hb2, hk2, hr2⟩; obtain ⟨t0, t1⟩ := pair_cells (hk2 _ _ _ Hp.out.obj); have Hb2 := hide hb2; have Hr2 := hide hr2; clear hb2 hk2 hr2)
   | (go_at_call 15; refine (Htk.out p.g w2 Hr2.out).mono ?_; rintro e w3 ⟨r, rfl, hr3, hb3⟩; have Hr3 := hide hr3; have Hb3 := hide hb3; clear hr3 hb3)
   | (go_at_call 16; refine (Hsm.out w2 w3 r Hb3.out Hr3.out).mono ?_; rintro e w4 ⟨rfl, q4, e4⟩; subst e4))
 go_ret
 have h2 := Hb1.out.trans Hb2.out
 have h3 := h2.trans (Hb3.out.mono h2.size)
 exact ⟨rfl, below_drewN (h3.alloc h3.size _) q4⟩
end Go.Proofs.YtlmflighkkgikaaGreat
