import Derived.Test.YtlmflighkkgikaaP03
import Derived.Test.YtlmflighkkgikaaP23
import Derived.Test.YtlmflighkkgikaaP28
import Derived.Test.YtlmflighkkgikaaP37
import Derived.Test.YtlmflighkkgikaaP38
import Derived.Test.YtlmflighkkgikaaP39

namespace Go.Proofs.Ytlmflighkkgikaa
open Go.RowKit
attribute [local go_sem ↓] Go.wp_at_zero Go.wp_at_succ
section
variable {F ok : Nat → Prop} {w w' : World} {g : Parts} {c : Cfg} {L : List (Int × Key)} {il : List (List Nat)}
theorem HoardI.oks {ok' : Nat → Prop} (h : HoardI F ok w g c L il) (hm : ∀ {v : Value} {l _m : Nat} {kf vf : Nat → Nat → Int}, CellI ok w v l c.width kf vf → CellI ok' w v l c.width kf vf) : HoardI F ok' w g c L il := by
 obtain ⟨B, free, hS, hM⟩ := h.ex
 obtain ⟨vI, vF, N, Mm, hl⟩ := hS.low
 refine ⟨⟨B, free, ⟨⟨vI, vF, N, Mm, { hl with blks := ⟨fun k b hk => ?_, hl.blks.ne, hl.blks.ahead, hl.blks.inj⟩ }⟩, hS.pure, hS.dom, hS.count, hS.many⟩, hM⟩, h.ids, h.ne, h.few, h.sm⟩
 obtain ⟨v, h1, S, h2, h3⟩ := hl.blks.at' k b hk
 exact ⟨v, h1, S, h2, fun t ht => ⟨(h3 t ht).1, hm (_m := 0) (h3 t ht).2⟩⟩
theorem HoardI.okmono {ok' : Nat → Prop} (h : HoardI F ok w g c L il) (hm : ∀ b, ok b → ok' b) : HoardI F ok' w g c L il := h.oks (fun hc => hc.mono hm)
theorem HoardI.and_old (h : HoardI F ok w g c L il) (hc : c.ok) : HoardI F (fun b => ok b ∧ b < w.heap.size) w g c L il := h.oks (fun hx => hx.and_old (by have := c.width_bd hc; omega))
end
theorem OwnI.keepT {base : Nat} {w w' : World} {b cap n : Nat} {g : Nat → Int} (h : OwnI base w b cap n g) (hk : KeepT 3 w w') : OwnI base w' b cap n g := by
 obtain ⟨cur, h1, h2, r⟩ := h
 exact ⟨cur, h1, hk _ _ _ h2, r⟩
end Go.Proofs.Ytlmflighkkgikaa
namespace Go.Proofs.Ytlmflighkkgikaa
open Go.RowKit
section
variable {F ok ok' : Nat → Prop} {w w' : World} {g : Parts} {c : Cfg} {L : List (Int × Key)} {il : List (List Nat)}
theorem HoardI.carry (h : HoardI F ok w g c L il) (hs : w.heap.size ≤ w'.heap.size) (hF : ∀ k o, w.heap[k]? = some o → F k → (∀ cur e fr, o = .cells cur e fr → mutT e) → w'.heap[k]? = some o) (hSM : w'.heap[g.SM]? = w.heap[g.SM]?) (hMo : ModelT w' g.M c g.vE g.vH g.bL g.oL g.cL)
   (hC : ∀ {v : Value} {kf vf : Nat → Nat → Int}, CellI ok w v c.layers c.width kf vf → CellI ok' w' v c.layers c.width kf vf) : HoardI F ok' w' g c L il := by
 obtain ⟨B, free, hS, hMap⟩ := h.ex
 obtain ⟨vI, vF, N, Mm, hl⟩ := hS.low
 obtain ⟨arr, o0, o⟩ := hl.obj
 have far : ∀ {k : Nat} {cur : Array Value} {e : TypeId} {fr : Nat × Nat}, w.heap[k]? = some (.cells cur e fr) → F k → mutT e → w'.heap[k]? = w.heap[k]? := fun hk hf he => by
   rw [hF _ _ hk hf (fun cur' e' fr' q => by injection q with _ q _; rw [← q]; exact he), hk]
 have mB : mutT 87 := by unfold mutT; decide
 have mS : mutT 118 := by unfold mutT; decide
 have mP : mutT 61 := by unfold mutT; decide
 refine ⟨⟨B, free, ⟨⟨vI, vF, N, Mm, ⟨⟨arr, (far o0 hl.fX (by unfold mutT; decide)).trans o0, o⟩, hMo, hl.pool.keep (far hl.pool.obj hl.fP (by unfold mutT; decide)) (fun b hb => ?_) (fun b hb => far (hl.pool.blank b hb) (hl.fE b hb) mB), hl.tree.keepT (fun p a hp => ?_) (fun p mb hp hmb => ?_), hl.root, hl.smap, hl.list.keep (fun b hb => ?_), hl.ilN, hl.ilnd, ⟨fun k b hk => ?_, hl.blks.ne, hl.blks.ahead, hl.blks.inj⟩, hl.freeB, hl.apart, hl.fX, hl.fP, hl.fI, hl.fF, hl.fB, hl.fE, fun k b x y z s hk hh hs => ?_⟩⟩, hS.pure, hS.dom, hS.count, hS.many⟩, hMap.keep hSM⟩, h.ids, h.ne, h.few, h.sm.1, Nat.lt_of_lt_of_le h.sm.2 hs⟩
 · obtain ⟨cur, hc⟩ := hl.pool.row.kind hb
   exact far hc (hl.fF b hb) mP
 · obtain ⟨a', ty, n0, _⟩ := hl.tree.node p a hp
   refine far n0 (hl.tree.foot p a hp) ?_
   rcases hl.tree.kind p a a' ty _ hp n0 with rfl | rfl <;> (unfold mutT; decide)
 · obtain ⟨es, cl, ho⟩ := (hl.tree.kids p mb hp hmb).obj
   rw [hF _ _ ho (hl.tree.mfoot p mb hp hmb) (fun _ _ _ q => by cases q), ho]
 · obtain ⟨cur, hc⟩ := hl.list.kind hb
   exact far hc (hl.fI b hb) mP
 · obtain ⟨v, h1, S, h2, h3⟩ := hl.blks.at' k b hk
   refine ⟨v, (far h1 (hl.fB k b hk) mB).trans h1, S, ?_, fun t ht => ⟨(h3 t ht).1, hC (h3 t ht).2⟩⟩
   obtain ⟨q0, q | ⟨s, cap, cur, q1, r1, hg, r⟩⟩ := h2
   · exact ⟨q0, .inl q⟩
   · exact ⟨q0, .inr ⟨s, cap, cur, q1, r1, (far hg (hl.fS k b v _ _ s hk h1 (by rw [q1]; rfl)) mS).trans hg, r⟩⟩
 · obtain ⟨v, h1, _⟩ := hl.blks.at' k b hk
   rw [far h1 (hl.fB k b hk) mB] at hh
   exact hl.fS k b x y z s hk hh hs
theorem HoardI.sub {F' : Nat → Prop} (h : HoardI F ok w g c L il) (hm : ∀ k, k < w.heap.size → F k → F' k) (hsm : ¬ F' g.SM) : HoardI F' ok w g c L il := by
 obtain ⟨B, free, hS, hMap⟩ := h.ex
 obtain ⟨vI, vF, N, Mm, hl⟩ := hS.low
 obtain ⟨arr, o0, o⟩ := hl.obj
 refine ⟨⟨B, free, ⟨⟨vI, vF, N, Mm, { hl with tree := { hl.tree with foot := fun p a hp => ?_, mfoot := fun p b hp hb => ?_ }, fX := hm _ (lt_blk o0) hl.fX, fP := hm _ (lt_blk hl.pool.obj) hl.fP, fI := fun b hb => ?_, fF := fun b hb => ?_, fB := fun k b hk => ?_, fE := fun b hb => hm _ (lt_blk (hl.pool.blank b hb)) (hl.fE b hb), fS := fun k b x y z s hk hh hs => ?_ }⟩, hS.pure, hS.dom, hS.count, hS.many⟩, hMap⟩, h.ids, h.ne, h.few, hsm, h.sm.2⟩
 · obtain ⟨a', ty, n0, _⟩ := hl.tree.node p a hp
   exact hm _ (lt_blk n0) (hl.tree.foot p a hp)
 · exact hm _ (hl.tree.kids p b hp hb).lt (hl.tree.mfoot p b hp hb)
 · obtain ⟨cur, hc⟩ := hl.list.kind hb
   exact hm _ (lt_blk hc) (hl.fI b hb)
 · obtain ⟨cur, hc⟩ := hl.pool.row.kind hb
   exact hm _ (lt_blk hc) (hl.fF b hb)
 · obtain ⟨v, h1, _⟩ := hl.blks.at' k b hk
   exact hm _ (lt_blk h1) (hl.fB k b hk)
 · obtain ⟨v, h1, S, h2, h3⟩ := hl.blks.at' k b hk
   have e : x = v := by
     rw [h1] at hh
     injection hh with hh
     injection hh with hh _ _
     have := congrArg (fun a => a[0]?) hh
     simpa using this.symm
   subst e
   obtain ⟨q0, ⟨q, _⟩ | ⟨s', cap, cur, q1, r1, hg, r⟩⟩ := h2
   · rw [q] at hs; cases hs
   · have es : s' = s := by rw [q1] at hs; injection hs
     subst es
     exact hm _ (lt_blk hg) (hl.fS k b x y z s' hk hh hs)
theorem HoardI.only {H : Nat → Prop} (h : HoardI F ok w g c L il) (ho : Only H w w') (hH : ∀ k, k < w.heap.size → H k → (¬ F k ∧ k ≠ g.SM) ∨ ∃ cur e fr, w.heap[k]? = some (.cells cur e fr) ∧ ¬ mutT e) (hM : ModelT w' g.M c g.vE g.vH g.bL g.oL g.cL) (hm : KeepT 113 w w') (hk : ∀ b cur fr, ok b → w.heap[b]? = some (.cells cur 3 fr) → w'.heap[b]? = some (.cells cur 3 fr)) : HoardI F ok w' g c L il := by
 refine h.carry ho.size (fun k o hk' hF hT => ?_) ?_ hM (fun hc => hc.stays hm hk)
 · rw [ho.block k (lt_blk hk') (fun hh => ?_), hk']
   rcases hH k (lt_blk hk') hh with q | ⟨cur, e, fr, q1, q2⟩
   · exact q.1 hF
   · rw [hk'] at q1; injection q1 with q1; exact q2 (hT _ _ _ q1)
 · refine ho.block g.SM h.sm.2 (fun hh => ?_)
   rcases hH g.SM h.sm.2 hh with q | ⟨cur, e, fr, q1, q2⟩
   · exact q.2 rfl
   · obtain ⟨B, free, hS, hMap⟩ := h.ex
     obtain ⟨es, cl, q⟩ := hMap.obj
     rw [q] at q1; cases q1
end
end Go.Proofs.Ytlmflighkkgikaa
namespace Go.Proofs.Ytlmflighkkgikaa
open Go.RowKit
attribute [local go_sem ↓] Go.wp_at_zero Go.wp_at_succ
theorem map_ne {w : World} {b SM : Nat} {cur : Array Value} {e : TypeId} {fr : Nat × Nat} {n : Nat} {M : Int → Option Value} (hb : w.heap[b]? = some (.cells cur e fr)) (h : MapV Try.prog 3 w SM n M) : b ≠ SM := fun he => by
 subst he
 obtain ⟨E, q, hm⟩ := MapV.obj h
 rw [hb] at hm
 cases hm
theorem held_new (ok : Nat → Prop) (c : Cfg) (hc : c.ok) (w0 wZ : World) {M PL SM bL oL cL : Nat} {vE vH vF : Value} {free : List Nat} (hb : Below w0.heap.size w0 wZ) (hM : ModelT wZ M c vE vH bL oL cL) (hP : PoolI wZ PL vF free) (hl : free.length = c.blocks) (hMap : MapV Try.prog 3 wZ SM 0 (fun _ => none))
   (h1 : w0.heap.size ≤ PL) (h2 : ∀ g, vF.ownBlock = some g → w0.heap.size ≤ g) (h3 : ∀ b ∈ free, w0.heap.size ≤ b) (_h4 : w0.heap.size ≤ SM) :
   HoardI (fun k => w0.heap.size ≤ k ∧ k ≠ SM) ok (wZ.alloc (.cells #[.int .i64 c.blocks, .int .i64 c.slots, .int .i64 c.layers, .int .i64 c.heads, .int .i64 c.pairs, .int .i64 c.vocab, .int .i64 c.seed, .pointer (some ⟨M, 0, none⟩), .pointer (some ⟨PL, 0, none⟩), .map none, .pointer none, .bool false, .slice none 0 0, .map (some SM)] 73)) ⟨wZ.heap.size, M, PL, SM, vE, vH, bL, oL, cL⟩ c [] [] := by
 obtain ⟨b1, b2⟩ := hc.blocks
 have hn := alloc_new wZ (.cells #[.int .i64 c.blocks, .int .i64 c.slots, .int .i64 c.layers, .int .i64 c.heads, .int .i64 c.pairs, .int .i64 c.vocab, .int .i64 c.seed, .pointer (some ⟨M, 0, none⟩), .pointer (some ⟨PL, 0, none⟩), .map none, .pointer none, .bool false, .slice none 0 0, .map (some SM)] 73)
 generalize hwN : wZ.alloc (.cells #[.int .i64 c.blocks, .int .i64 c.slots, .int .i64 c.layers, .int .i64 c.heads, .int .i64 c.pairs, .int .i64 c.vocab, .int .i64 c.seed, .pointer (some ⟨M, 0, none⟩), .pointer (some ⟨PL, 0, none⟩), .map none, .pointer none, .bool false, .slice none 0 0, .map (some SM)] 73) = wN at hn
 have hbN : Below wZ.heap.size wZ wN := by rw [← hwN]; exact (Below.refl _ _).alloc (Nat.le_refl _) _
 have hkp : ∀ e : TypeId, KeepT e wZ wN := fun e => KeepT.of_below hbN
 have hsz := hb.size
 have hSM := hMap.lt
 have hnl : ∀ k : Key, ¬ heldBy c.slots [] k := fun k hk => by obtain ⟨h, hh, _⟩ := hk; simp at hh
 refine ⟨⟨fun _ => none, free, ⟨⟨.slice none 0 0, vF, fun p => if p = [] then some (wZ.heap.size, 9) else none, fun _ => none, ⟨⟨_, hn, rfl, rfl, rfl, rfl, rfl, rfl, rfl, rfl⟩, hM.keep (hkp _) (hkp _) (hkp _) (hkp _), hP.keep (hbN.block _ (lt_blk hP.obj)) (fun b hb' => hbN.block _ (own_lt hP.row hb')) (fun b hb' => hbN.block _ (lt_blk (hP.blank b hb'))), ⟨⟨_, rfl⟩, fun p a hp => ?_, fun p hp _ t => ?_, fun p b _ hm => (by cases hm), fun p t hp => ?_, fun p q a a' hp hq _ => ?_, fun p q b _ _ hm => (by cases hm), fun p hp => absurd rfl hp, fun p a hp => ?_, fun p b _ hm => (by cases hm), fun p a arr ty fr hp hh => ?_, fun p t hp => ?_⟩, rfl, fun p _ hm => (by cases hm), World.ownsRow_nil _ _ _ _, fun p hp => (by cases hp), List.nodup_nil, ⟨fun k b hk => (by cases hk), fun k hk => absurd rfl hk, fun k hk => absurd rfl hk, fun k k' b hk => (by cases hk)⟩, fun b _ k => by simp, fun b hb' => (by cases hb'), ⟨hsz, (fun e => absurd hSM (by rw [show wZ.heap.size = SM from e]; omega))⟩, ⟨h1, map_ne hP.obj hMap⟩, fun b hb' => (by cases hb'), fun b hb' => ⟨h2 b hb', ?_⟩, fun k b hk => (by cases hk), fun b hb' => ⟨h3 b hb', map_ne (hP.blank b hb') hMap⟩, fun k b x y z s hk => (by cases hk)⟩⟩, ⟨fun h hh => (by cases hh), fun h hh => (by cases hh), fun h hh => (by cases hh), List.Pairwise.nil, fun h hh => (by cases hh)⟩, fun k => ⟨fun h => absurd rfl h, fun h => ?_⟩, by simpa [nUsed, usedK, dd] using hl, by simp⟩, ?_⟩, List.nodup_nil, fun x hx => (by cases hx), by simp, ⟨fun h => h.2 rfl, Nat.lt_of_lt_of_le hSM hbN.size⟩⟩
 · split at hp
   · injection hp with hp; subst hp; exact ⟨_, _, hn, rfl, rfl, rfl⟩
   · cases hp
 · rw [if_neg (by simp)]
 · rw [if_neg (by simp)] at hp; exact absurd rfl hp
 · split at hp
   · rename_i e1
     split at hq
     · rename_i e2; rw [e1, e2]
     · cases hq
   · cases hp
 · split at hp
   · injection hp with hp; subst hp; exact ⟨hsz, by simp; omega⟩
   · cases hp
 · split at hp
   · injection hp with hp; subst hp
     rw [hn] at hh; injection hh with hh; injection hh with _ hh _; exact .inl hh.symm
   · cases hp
 · rw [if_neg (by simp)] at hp; exact absurd rfl hp
 · obtain ⟨cur, hcur⟩ := hP.row.kind hb'
   exact map_ne hcur hMap
 · rcases h with h | h
   · exact absurd h (hnl k)
   · exact absurd h.2 (by simp)
 · exact hMap.keep (hbN.block _ hMap.lt)
theorem cfg_cells {w : World} {b : Nat} {a0 a1 a2 a3 a4 a5 a6 : Value} {t : TypeId} {fr : Nat × Nat} (h : w.heap[b]? = some (.cells #[a0, a1, a2, a3, a4, a5, a6] t fr)) :
   w.cell? ⟨b, 0, none⟩ = some a0 ∧ w.cell? ⟨b, 1, none⟩ = some a1 ∧ w.cell? ⟨b, 2, none⟩ = some a2 ∧ w.cell? ⟨b, 3, none⟩ = some a3 ∧ w.cell? ⟨b, 4, none⟩ = some a4 ∧ w.cell? ⟨b, 5, none⟩ = some a5 ∧ w.cell? ⟨b, 6, none⟩ = some a6 := by
 refine ⟨?_, ?_, ?_, ?_, ?_, ?_, ?_⟩ <;> (rw [cell_blk h]; rfl)
def cfgV (c : Cfg) : Value := .agg #[.int .i64 c.blocks, .int .i64 c.slots, .int .i64 c.layers, .int .i64 c.heads, .int .i64 c.pairs, .int .i64 c.vocab, .int .i64 c.seed]
def NMod (c : Cfg) (w : World) (v : Value) : Prop := ∃ M vE vH bL oL cL, v = .pointer (some ⟨M, 0, none⟩) ∧ ModelT w M c vE vH bL oL cL
def NPool (B : Nat) (c : Cfg) (w : World) (v : Value) : Prop := ∃ PL vF free, v = .pointer (some ⟨PL, 0, none⟩) ∧ PoolI w PL vF free ∧ free.length = c.blocks ∧ B ≤ PL ∧ (∀ g, vF.ownBlock = some g → B ≤ g) ∧ ∀ b ∈ free, B ≤ b
def NMap (B : Nat) (w : World) (v : Value) : Prop := ∃ SM, v = .map (some SM) ∧ MapV Try.prog 3 w SM 0 (fun _ => none) ∧ B ≤ SM
def hoardV (c : Cfg) (v1 v2 v3 : Value) : Value := .agg #[.int .i64 c.blocks, .int .i64 c.slots, .int .i64 c.layers, .int .i64 c.heads, .int .i64 c.pairs, .int .i64 c.vocab, .int .i64 c.seed, v1, v2, .map none, .pointer none, .bool false, .slice none 0 0, v3]
def NSpec (ok : Nat → Prop) (B : Nat) (c : Cfg) (i : Nat) (v : Value) (w : World) : Prop := match i with
 | 0 => v = cfgV c
 | 1 => v = cfgV c
 | 2 => NMod c w v
 | 3 => v = .pointer (some ⟨B, 0, none⟩)
 | 4 => v = .int .i64 c.blocks
 | 5 => NPool B c w v
 | 6 => NMap B w v
 | 7 => ∃ v1 v2 v3, v = hoardV c v1 v2 v3 ∧ NMod c w v1 ∧ NPool B c w v2 ∧ NMap B w v3
 | 8 => ∃ g, v = .pointer (some ⟨g.X, 0, none⟩) ∧ (B ≤ g.X ∧ B ≤ g.SM) ∧ HoardI (fun k => B ≤ k ∧ k ≠ g.SM) ok w g c [] []
 | 9 => ∃ g, v = .pointer (some ⟨g.X, 0, none⟩) ∧ (B ≤ g.X ∧ B ≤ g.SM) ∧ HoardI (fun k => B ≤ k ∧ k ≠ g.SM) ok w g c [] []
 | _ => v = .int .i64 0
theorem NMod.below {c : Cfg} {w w' : World} {v : Value} (h : NMod c w v) (hb : Below w.heap.size w w') : NMod c w' v := by
 obtain ⟨M, vE, vH, bL, oL, cL, e, h⟩ := h
 exact ⟨M, vE, vH, bL, oL, cL, e, h.keep (KeepT.of_below hb) (KeepT.of_below hb) (KeepT.of_below hb) (KeepT.of_below hb)⟩
theorem NPool.below {B : Nat} {c : Cfg} {w w' : World} {v : Value} (h : NPool B c w v) (hb : Below w.heap.size w w') : NPool B c w' v := by
 obtain ⟨PL, vF, free, e, h, r⟩ := h
 exact ⟨PL, vF, free, e, h.keep (hb.block _ (lt_blk h.obj)) (fun b hb' => hb.block _ (own_lt h.row hb')) (fun b hb' => hb.block _ (lt_blk (h.blank b hb'))), r⟩
theorem NMap.below {B : Nat} {w w' : World} {v : Value} (h : NMap B w v) (hb : Below w.heap.size w w') : NMap B w' v := by
 obtain ⟨SM, e, h, r⟩ := h
 exact ⟨SM, e, h.keep (hb.block _ h.lt), r⟩
theorem NSpec.below {ok : Nat → Prop} {B : Nat} {c : Cfg} {i : Nat} {v : Value} {w w' : World} (h : NSpec ok B c i v w) (hb : Below w.heap.size w w') : NSpec ok B c i v w' := by
 match i, h with
 | 0, h => exact h
 | 1, h => exact h
 | 2, h => exact NMod.below h hb
 | 3, h => exact h
 | 4, h => exact h
 | 5, h => exact NPool.below h hb
 | 6, h => exact NMap.below h hb
 | 7, h => obtain ⟨v1, v2, v3, e, h1, h2, h3⟩ := h; exact ⟨v1, v2, v3, e, h1.below hb, h2.below hb, h3.below hb⟩
 | 8, h => obtain ⟨X, e, h1, h2⟩ := h; exact ⟨X, e, h1, h2.below hb⟩
 | 9, h => obtain ⟨X, e, h1, h2⟩ := h; exact ⟨X, e, h1, h2.below hb⟩
 | n + 10, h => exact h
set_option maxRecDepth 100000 in
set_option maxHeartbeats 2000000 in
theorem new_any (ok : Nat → Prop) (c : Cfg) (hc : c.ok) (r : Raw) (hr : r.right) (hrc : r.agg = cfgV c) (w : World) : Calls Try.prog 28 #[r.agg] w fun e w' => ∃ g : Parts, e = .returned (.tuple #[.pointer (some ⟨g.X, 0, none⟩), .int .i64 0]) ∧ (w.heap.size ≤ g.X ∧ w.heap.size ≤ g.SM) ∧ HoardI (fun k => w.heap.size ≤ k ∧ k ≠ g.SM) ok w' g c [] [] ∧ Below w.heap.size w w' := by
 obtain ⟨b1, b2⟩ := hc.blocks
 have hic := fun w => isconfig_any r w
 simp only [hr, decide_true] at hic
 rw [hrc] at *
 have hdn := dnew_any c hc
 have Hdn := hide hdn
 have hnp := fun w => newpool_any c.blocks w b1 b2
 have Hnp := hide hnp
 unfold cfgV at *
 have Hic := hide hic
 clear hic hdn hnp
 go_enter Try.func28, Try.ntmps28
 go_wp2_with (go_at_call 44; refine (Hic.out _).mono ?_; rintro e w1 ⟨rfl, hb⟩; have hb1 : Below w.heap.size w w1 := ((Below.refl w.heap.size w).alloc (Nat.le_refl _) _).trans (hb.mono (by simp)); have hs1 := hb1.size; have hs0 := hb.size; simp at hs0; have x0 := (hb.block w.heap.size (by simp)).trans (alloc_new w _); have Hx0 := hide x0; clear x0 hb)
 refine wp_region_specs0 (Spec := NSpec ok w.heap.size c) (J := fun W => Below w.heap.size w W ∧ W.heap[w.heap.size]? = some (.cells #[.int .i64 c.blocks, .int .i64 c.slots, .int .i64 c.layers, .int .i64 c.heads, .int .i64 c.pairs, .int .i64 c.vocab, .int .i64 c.seed] 26 (0, 0))) (by kernel_rfl) (by kernel_rfl) ?step ?fin ?init
 case init => exact ⟨hb1.drew, Hx0.out⟩
 case fin =>
   intro a W hF hJ hS
   obtain ⟨hB, _⟩ : Below w.heap.size w W ∧ _ := hJ
   have r9 := hS 9 _ rfl
   have r10 := hS 10 _ rfl
   obtain ⟨g, h2, h3, h4⟩ := r9
   have h2' : a.tmps[2]?.getD undef = .pointer (some ⟨g.X, 0, none⟩) := by have h := h2; simpa [valOf] using h
   have h10 : valOf a _ = Value.int .i64 0 := r10
   have h10' : a.tmps[3]?.getD undef = .int .i64 0 := by have h := h10; simpa [valOf] using h
   have Hh4 := hide h4
   clear h4 hS r10 h10 h2
   go_wp2_with fail
   refine bodyPost_ret (v := .tuple #[.pointer (some ⟨g.X, 0, none⟩), .int .i64 0]) (by simp [results, Try.results28, h2', h10']) hF.defers ⟨g, rfl, h3, Hh4.out, hB⟩
 case step =>
   intro i o ho a W hF hJ hdep K hK
   have hJ0 := hJ
   obtain ⟨hB, hx⟩ : Below w.heap.size w W ∧ W.heap[w.heap.size]? = some (.cells #[.int .i64 c.blocks, .int .i64 c.slots, .int .i64 c.layers, .int .i64 c.heads, .int .i64 c.pairs, .int .i64 c.vocab, .int .i64 c.seed] 26 (0, 0)) := hJ
   obtain ⟨y0, y1, y2, y3, y4, y5, y6⟩ := cfg_cells hx
   have hi11 : i < 11 := by have := (Array.getElem?_eq_some_iff.1 ho).1; simpa using this
   have e1 : a.eval (.tmp 1) = .pointer (some ⟨w.heap.size, 0, none⟩) := (frame_eval hF (by kernel_rfl)).trans rfl
   have e1' : a.tmps[1]?.getD undef = .pointer (some ⟨w.heap.size, 0, none⟩) := by have h := e1; simpa [Act.eval] using h
   have hJ' : ∀ W', Below W.heap.size W W' → Below w.heap.size w W' ∧ W'.heap[w.heap.size]? = some (.cells #[.int .i64 c.blocks, .int .i64 c.slots, .int .i64 c.layers, .int .i64 c.heads, .int .i64 c.pairs, .int .i64 c.vocab, .int .i64 c.seed] 26 (0, 0)) := fun W' hb => ⟨hB.trans (hb.mono hB.size), (hb.block _ (lt_blk hx)).trans hx⟩
   match i, hi11 with
   | 0, _ => exact spec_run (d := some 7) (op := .load 26 (.tmp 1)) (ty := 26) (v := cfgV c) (w' := W) ho (by kernel_rfl) (fun pos after => by simp [execOp, e1', y0, y1, y2, y3, y4, y5, y6, go_sem, cfgV]) (hK _ _ hJ0 (dst_ne ho (d := 7) (by kernel_rfl)) rfl (fun _ _ _ h => h))
   | 1, _ => exact spec_run (d := some 8) (op := .load 26 (.tmp 1)) (ty := 26) (v := cfgV c) (w' := W) ho (by kernel_rfl) (fun pos after => by simp [execOp, e1', y0, y1, y2, y3, y4, y5, y6, go_sem, cfgV]) (hK _ _ hJ0 (dst_ne ho (d := 8) (by kernel_rfl)) rfl (fun _ _ _ h => h))
   | 2, _ =>
     have q : a.eval (.tmp 8) = cfgV c := dep_at ho hdep (j := 1) (dj := 8) (by kernel_rfl) (by kernel_rfl)
     refine spec_call (d := some 9) (ty := 63) 45 Try.func45 (by kernel_rfl) (by kernel_rfl) #[.tmp 8] #[26] ho (by kernel_rfl) #[cfgV c] (by simp [q]) (R := fun v W' => NMod c W' v ∧ Below W.heap.size W W') ((Hdn.out W).mono (fun e W' ⟨M, vE, vH, bL, oL, cL, he, _, hm, hb⟩ => ⟨_, he, ⟨M, vE, vH, bL, oL, cL, rfl, hm⟩, hb⟩)) (fun v W' ⟨hm, hb⟩ => hK _ _ (hJ' W' hb) (dst_ne ho (d := 9) (by kernel_rfl)) hm (fun j u _ h => NSpec.below h hb))
   | 3, _ => exact spec_run (d := some 10) (op := .fieldAddr 26 (.tmp 1) 0) (ty := 0) (v := .pointer (some ⟨w.heap.size, 0, none⟩)) (w' := W) ho (by kernel_rfl) (fun pos after => by simp [execOp, e1', go_sem]) (hK _ _ hJ0 (dst_ne ho (d := 10) (by kernel_rfl)) rfl (fun _ _ _ h => h))
   | 4, _ =>
     have q : a.eval (.tmp 10) = .pointer (some ⟨w.heap.size, 0, none⟩) := dep_at ho hdep (j := 3) (dj := 10) (by kernel_rfl) (by kernel_rfl)
     have q' : a.tmps[10]?.getD undef = .pointer (some ⟨w.heap.size, 0, none⟩) := by have h := q; simpa [Act.eval] using h
     exact spec_run (d := some 11) (op := .load 3 (.tmp 10)) (ty := 3) (v := .int .i64 c.blocks) (w' := W) ho (by kernel_rfl) (fun pos after => by simp [execOp, q', y0, go_sem]) (hK _ _ hJ0 (dst_ne ho (d := 11) (by kernel_rfl)) rfl (fun _ _ _ h => h))
   | 5, _ =>
     have q : a.eval (.tmp 11) = .int .i64 c.blocks := dep_at ho hdep (j := 4) (dj := 11) (by kernel_rfl) (by kernel_rfl)
     refine spec_call (d := some 12) (ty := 64) 46 Try.func46 (by kernel_rfl) (by kernel_rfl) #[.tmp 11] #[3] ho (by kernel_rfl) #[.int .i64 c.blocks] (by simp [q]) (R := fun v W' => NPool w.heap.size c W' v ∧ Below W.heap.size W W') ((Hnp.out W).mono (fun e W' ⟨PL, vF, free, he, hp, hl, hb, g1, g2, g3⟩ => ⟨_, he, ⟨PL, vF, free, rfl, hp, hl, Nat.le_trans hB.size g1, fun g hg => Nat.le_trans hB.size (g2 g hg), fun i hi => Nat.le_trans hB.size (g3 i hi)⟩, hb⟩)) (fun v W' ⟨hm, hb⟩ => hK _ _ (hJ' W' hb) (dst_ne ho (d := 12) (by kernel_rfl)) hm (fun j u _ h => NSpec.below h hb))
   | 6, _ =>
     have hb : Below W.heap.size W (W.alloc (.map #[] 0)) := (Below.refl _ _).alloc (Nat.le_refl _) _
     exact spec_run (d := some 13) (op := .makeMap 71 none) (ty := 71) (v := .map (some W.heap.size)) (w' := W.alloc (.map #[] 0)) ho (by kernel_rfl) (fun pos after => by simp [execOp, run_makeMap, go_sem]) (hK _ _ (hJ' _ hb) (dst_ne ho (d := 13) (by kernel_rfl)) ⟨_, rfl, MapV.made _ _ _, hB.size⟩ (fun j u _ h => NSpec.below h hb))
   | 7, _ =>
     have q7 : a.eval (.tmp 7) = cfgV c := dep_at ho hdep (j := 0) (dj := 7) (by kernel_rfl) (by kernel_rfl)
     have q9 : NMod c W (a.eval (.tmp 9)) := dep_at ho hdep (j := 2) (dj := 9) (by kernel_rfl) (by kernel_rfl)
     have q12 : NPool w.heap.size c W (a.eval (.tmp 12)) := dep_at ho hdep (j := 5) (dj := 12) (by kernel_rfl) (by kernel_rfl)
     have q13 : NMap w.heap.size W (a.eval (.tmp 13)) := dep_at ho hdep (j := 6) (dj := 13) (by kernel_rfl) (by kernel_rfl)
     obtain ⟨M, vE, vH, bL, oL, cL, h9, hm⟩ := q9
     obtain ⟨PL, vF, free, h12, hp⟩ := q12
     obtain ⟨SM, h13, hmp⟩ := q13
     have q7' : a.tmps[7]?.getD undef = cfgV c := by have h := q7; simpa [Act.eval] using h
     have q9' : a.tmps[9]?.getD undef = .pointer (some ⟨M, 0, none⟩) := by have h := h9; simpa [Act.eval] using h
     have q12' : a.tmps[12]?.getD undef = .pointer (some ⟨PL, 0, none⟩) := by have h := h12; simpa [Act.eval] using h
     have q13' : a.tmps[13]?.getD undef = .map (some SM) := by have h := h13; simpa [Act.eval] using h
     exact spec_run (d := some 14) (op := .build 73 #[(0, .tmp 7), (1, .tmp 9), (2, .tmp 12), (5, .tmp 13)]) (ty := 73) (v := hoardV c (.pointer (some ⟨M, 0, none⟩)) (.pointer (some ⟨PL, 0, none⟩)) (.map (some SM))) (w' := W) ho (by kernel_rfl) (fun pos after => by simp [execOp, q7', q9', q12', q13', cfgV, hoardV, go_sem]) (hK _ _ hJ0 (dst_ne ho (d := 14) (by kernel_rfl)) ⟨_, _, _, rfl, ⟨M, vE, vH, bL, oL, cL, rfl, hm⟩, ⟨PL, vF, free, rfl, hp⟩, ⟨SM, rfl, hmp⟩⟩ (fun _ _ _ h => h))
   | 8, _ =>
     have q14 : NSpec ok w.heap.size c 7 (a.eval (.tmp 14)) W := dep_at ho hdep (j := 7) (dj := 14) (by kernel_rfl) (by kernel_rfl)
     obtain ⟨v1, v2, v3, h14, ⟨M, vE, vH, bL, oL, cL, rfl, hm⟩, ⟨PL, vF, free, rfl, hp, hl, g1, g2, g3⟩, ⟨SM, rfl, hmp, g4⟩⟩ := q14
     have q14' : a.tmps[14]?.getD undef = hoardV c (.pointer (some ⟨M, 0, none⟩)) (.pointer (some ⟨PL, 0, none⟩)) (.map (some SM)) := by have h := h14; simpa [Act.eval] using h
     have hh := held_new ok c hc w W hB hm hp hl hmp g1 g2 g3 g4
     have hb : ∀ o : Obj, Below W.heap.size W (W.alloc o) := fun o => (Below.refl _ _).alloc (Nat.le_refl _) _
     exact spec_run (d := some 15) (op := .box 73 (.tmp 14)) (ty := 29) (v := .pointer (some ⟨W.heap.size, 0, none⟩)) (w' := W.alloc (.cells #[.int .i64 c.blocks, .int .i64 c.slots, .int .i64 c.layers, .int .i64 c.heads, .int .i64 c.pairs, .int .i64 c.vocab, .int .i64 c.seed, .pointer (some ⟨M, 0, none⟩), .pointer (some ⟨PL, 0, none⟩), .map none, .pointer none, .bool false, .slice none 0 0, .map (some SM)] 73)) ho (by kernel_rfl) (fun pos after => by simp [execOp, q14', hoardV, go_sem]) (hK _ _ (hJ' _ (hb _)) (dst_ne ho (d := 15) (by kernel_rfl)) ⟨⟨W.heap.size, M, PL, SM, vE, vH, bL, oL, cL⟩, rfl, ⟨hB.size, g4⟩, hh⟩ (fun j u _ h => NSpec.below h (hb _)))
   | 9, _ =>
     have q15 : NSpec ok w.heap.size c 8 (a.eval (.tmp 15)) W := dep_at ho hdep (j := 8) (dj := 15) (by kernel_rfl) (by kernel_rfl)
     obtain ⟨g, h15, hX⟩ := q15
     have q15' : a.tmps[15]?.getD undef = .pointer (some ⟨g.X, 0, none⟩) := by have h := h15; simpa [Act.eval] using h
     exact spec_run (d := some 2) (op := .assign (.tmp 15)) (ty := 29) (v := .pointer (some ⟨g.X, 0, none⟩)) (w' := W) ho (by kernel_rfl) (fun pos after => by simp [execOp, q15', go_sem]) (hK _ _ hJ0 (dst_ne ho (d := 2) (by kernel_rfl)) ⟨g, rfl, hX⟩ (fun _ _ _ h => h))
   | 10, _ => exact spec_run (d := some 3) (op := .assign (.const (.int .i64 0))) (ty := 32) (v := .int .i64 0) (w' := W) ho (by kernel_rfl) (fun pos after => by simp [execOp, go_sem]) (hK _ _ hJ0 (dst_ne ho (d := 3) (by kernel_rfl)) rfl (fun _ _ _ h => h))
end Go.Proofs.Ytlmflighkkgikaa
