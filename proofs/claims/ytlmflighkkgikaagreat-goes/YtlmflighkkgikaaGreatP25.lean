import Derived.Test.YtlmflighkkgikaaGreatP23
import Derived.Test.YtlmflighkkgikaaGreatP24

namespace Go.Proofs.YtlmflighkkgikaaGreat
open Go.RowKit
attribute [local go_sem ↓] Go.wp_at_zero Go.wp_at_succ
structure StoreI (F ok : Nat → Prop) (w : World) (g : Parts) (c : Cfg) (H : List Key) (il : List (List Nat)) (B : Key → Option Nat) (free : List Nat) : Prop where
 low : ∃ vI vF N Mm, LowX F ok w g c B (users c.slots H) (fun p => B (p, 0)) il free vI vF N Mm
 pure : Pure c.slots c.vocab H il
 dom : ∀ k, B k ≠ none ↔ live c.slots H il k
 count : free.length + il.length + nUsed c.slots H = c.blocks
 many : H.length ≤ 100
section
variable {F ok : Nat → Prop} {w w' : World} {g : Parts} {c : Cfg} {H : List Key} {il : List (List Nat)} {B : Key → Option Nat} {free : List Nat}
theorem StoreI.mono {F' : Nat → Prop} (h : StoreI F ok w g c H il B free) (hm : ∀ k, F k → F' k) : StoreI F' ok w g c H il B free := by
 obtain ⟨vI, vF, N, Mm, hl⟩ := h.low
 exact ⟨⟨vI, vF, N, Mm, hl.mono hm⟩, h.pure, h.dom, h.count, h.many⟩
theorem StoreI.below (h : StoreI F ok w g c H il B free) (hb : Below w.heap.size w w') : StoreI F ok w' g c H il B free := by
 obtain ⟨vI, vF, N, Mm, hl⟩ := h.low
 exact ⟨⟨vI, vF, N, Mm, hl.below hb⟩, h.pure, h.dom, h.count, h.many⟩
theorem StoreI.ilen (h : StoreI F ok w g c H il B free) (hc : c.ok) : il.length ≤ 32 ∧ free.length ≤ 32 := by
 have := h.count
 have := hc.blocks.2
 omega
theorem StoreI.nil (h : StoreI F ok w g c H il B free) {k : Key} (hk : k.1 = []) : B k = none := by
 rcases none_or (B k) with e | ⟨b, e⟩
 · exact e
 · exact absurd hk (h.pure.live_ne ((h.dom k).1 (by rw [e]; simp)))
theorem StoreI.head {k : Key} (h : StoreI F ok w g c (k :: H) il B free) (hne : k.1 ≠ []) : B k ≠ none := (h.dom k).2 (.inl ((heldBy_cons _ _ _ _).2 (.inl (on_self _ _ hne))))
theorem StoreI.mem {k : Key} (h : StoreI F ok w g c H il B free) (hm : k ∈ H) (hne : k.1 ≠ []) : B k ≠ none := (h.dom k).2 (.inl ⟨k, hm, on_self _ _ hne⟩)
theorem StoreI.seqAt (h : StoreI F ok w g c H il B free) (k : Key) (hk : k.1 ≠ [] → live c.slots H il k) : SeqAt ok w c B (users c.slots H) k := by
 obtain ⟨vI, vF, N, Mm, hl⟩ := h.low
 exact ⟨hl.blks, fun e => h.nil e, fun e => (h.dom k).2 (hk e)⟩
theorem StoreI.gone (h : StoreI F ok w g c (([], 0) :: H) il B free) (hc : c.ok) : StoreI F ok w g c H il B free := by
 obtain ⟨vI, vF, N, Mm, hl⟩ := h.low
 have hp := h.pure.gone
 have eu : users c.slots (([], 0) :: H) = users c.slots H := by
   funext k
   rw [users_cons, if_neg (on_nil c.slots k 0)]; rfl
 rw [eu] at hl
 refine ⟨⟨vI, vF, N, Mm, hl⟩, hp, fun k => (h.dom k).trans (live_gone k), ?_, by have := h.many; simp at this; omega⟩
 rw [← nUsed_nil c.slots H 0 hc.slots.1 hp.ok rfl]
 exact h.count
theorem StoreI.perm {H' : List Key} (h : StoreI F ok w g c H il B free) (hc : c.ok) (hp : H.Perm H') : StoreI F ok w g c H' il B free := by
 obtain ⟨vI, vF, N, Mm, hl⟩ := h.low
 have eu : users c.slots H = users c.slots H' := by
   funext k
   exact users_perm c.slots hp k
 rw [eu] at hl
 have hm : ∀ x, x ∈ H ↔ x ∈ H' := fun x => hp.mem_iff
 have hb : ∀ k, heldBy c.slots H k ↔ heldBy c.slots H' k := fun k => ⟨fun ⟨x, hx, e⟩ => ⟨x, (hm x).1 hx, e⟩, fun ⟨x, hx, e⟩ => ⟨x, (hm x).2 hx, e⟩⟩
 refine ⟨⟨vI, vF, N, Mm, hl⟩, h.pure.perm hm, fun k => (h.dom k).trans ?_, ?_, by rw [← hp.length_eq]; exact h.many⟩
 · unfold live; rw [hb k]
 · rw [← nUsed_perm c.slots H H' hc.slots.1 h.pure.ok hm]; exact h.count
end
def DownTo (F ok : Nat → Prop) (w : World) (g : Parts) (c : Cfg) (H : List Key) (il : List (List Nat)) (B : Key → Option Nat) (j : Key) (e : Ending) (w' : World) : Prop :=
 e = .returned (.tuple #[]) ∧ ∃ B' free', StoreI (grow F w) ok w' g c (pred c.slots j :: H) (il ++ if j.2 = 0 ∧ ¬ heldBy c.slots H j then [j.1] else []) B' free' ∧ Moves F w w' ∧ ∀ x, B' x ≠ none → B' x = B x
set_option maxRecDepth 100000 in
set_option maxHeartbeats 1000000 in
theorem down_any (F ok : Nat → Prop) (g : Parts) (c : Cfg) (hc : c.ok) (H : List Key) (il : List (List Nat)) (B : Key → Option Nat) (free : List Nat) (j : Key) (w : World) (h : StoreI F ok w g c (j :: H) il B free) (hne : j.1 ≠ []) :
   Calls Tryz.prog 61 #[.pointer (some ⟨g.X, 0, none⟩), blkV (B j), .int .i64 0] w fun e w' => DownTo F ok w g c H il B j e w' := by
 obtain ⟨s1, s2⟩ := hc.slots
 obtain ⟨vI, vF, N, Mm, hl⟩ := h.low
 obtain ⟨b, hb⟩ := some_of_ne (h.head hne)
 obtain ⟨jok, jl, jt⟩ := h.pure.key j (by simp)
 obtain ⟨hil, hfl⟩ := h.ilen hc
 have hmany := h.many
 have hcount := h.count
 have hst := fun i => users_step c.slots j H i s1 jok hne
 have hpok := h.pure.ok
 have hHok : ∀ x ∈ H, keyOk c.slots x := fun x hx => hpok x (by simp [hx])
 have hnu := nUsed_step c.slots j H s1 jok hHok hne
 have hUj : users c.slots (j :: H) j = users c.slots H j + 1 := by rw [users_cons, if_pos (on_self _ _ hne)]
 rw [hb]
 by_cases hheld : heldBy c.slots H j
 · obtain ⟨n, hn⟩ : ∃ n, users c.slots H j = n + 1 := ⟨users c.slots H j - 1, by have := (users_pos c.slots H j).2 hheld; omega⟩
   refine (hl.down_more j b n hb (by omega) (by have := users_le c.slots H j; simp at hmany; omega)).mono ?_
   rintro e w' ⟨rfl, hl', hM⟩
   rw [if_pos hheld] at hnu
   refine ⟨rfl, B, free, ⟨⟨vI, vF, N, Mm, ?_⟩, ?_, fun k => ?_, ?_, by simpa using hmany⟩, hM, fun _ _ => rfl⟩
   · have eu : (fun i => if i = j then n + 1 else users c.slots (j :: H) i) = users c.slots (pred c.slots j :: H) := by
       funext i
       have q := hst i
       by_cases e : i = j
       · rw [if_pos e]
         rw [if_pos e, e] at q
         rw [e]; omega
       · rw [if_neg e]
         rw [if_neg e] at q
         omega
     rw [eu] at hl'
     rw [if_neg (fun q => q.2 hheld), List.append_nil]
     exact hl'.mono (fun k hk => .inl hk)
   · rw [if_neg (fun q => q.2 hheld), List.append_nil]
     exact h.pure.back_held s1 hheld
   · rw [if_neg (fun q => q.2 hheld), List.append_nil]
     exact (h.dom k).trans (live_back_held s1 jok hheld k).symm
   · rw [if_neg (fun q => q.2 hheld), List.append_nil]
     omega
 · have hU1 : users c.slots (j :: H) j = 1 := by have := (users_zero c.slots H j).2 hheld; omega
   rw [if_neg hheld] at hnu
   have eu : (fun i => if i = j then 0 else users c.slots (j :: H) i) = users c.slots (pred c.slots j :: H) := by
     funext i
     have q := hst i
     by_cases e : i = j
     · rw [if_pos e]
       rw [if_pos e, e] at q
       rw [e]; omega
     · rw [if_neg e]
       rw [if_neg e] at q
       omega
   by_cases hj : j.2 = 0
   · have hnot : j.1 ∉ il := fun hm => h.pure.out j.1 hm ((heldBy_cons _ _ _ _).2 (.inl (by
       rw [show (j.1, 0) = j from Prod.ext rfl hj.symm]; exact on_self _ _ hne)))
     refine (hl.down_idle hc j b hb hU1 hj hnot (by omega)).mono ?_
     rintro e w' ⟨rfl, vI', hl', hM⟩
     rw [eu] at hl'
     have ej : j = (j.1, 0) := Prod.ext rfl hj
     have hp0 := h.pure
     have hd0 := h.dom
     refine ⟨rfl, B, free, ⟨⟨vI', vF, N, Mm, ?_⟩, ?_, fun k => ?_, ?_, by simpa using hmany⟩, hM, fun _ _ => rfl⟩
     · rw [if_pos ⟨hj, hheld⟩]; exact hl'
     · rw [if_pos ⟨hj, hheld⟩]
       generalize j.1 = p at *
       subst ej
       exact hp0.back_idle s1 hne hheld
     · rw [if_pos ⟨hj, hheld⟩]
       refine (hd0 k).trans ?_
       generalize j.1 = p at *
       subst ej
       exact (live_back_idle s1 jok hne k).symm
     · rw [if_pos ⟨hj, hheld⟩, List.length_append, List.length_singleton]
       omega
   · refine (hl.down_tail hc j b hb hU1 hj (fun i _ e => hj (by rw [← e]; rfl)) (by omega) (by omega)).mono ?_
     rintro e w' ⟨rfl, vI', vF', N', hl', hM⟩
     rw [eu] at hl'
     have e1 : il.filter (fun p => decide ((p, 0) ≠ j)) = il := by
       apply List.filter_eq_self.2
       intro p _
       simp only [decide_eq_true_eq]
       exact fun e => hj (by rw [← e])
     have e2 : (fun p => if p = [] ++ j.1 then none else B (p, 0)) = fun p => (fun i => if i = j then none else B i) (p, 0) := by
       funext p
       have n1 : (p, 0) ≠ j := fun e => hj (by rw [← e])
       simp only [List.nil_append, if_neg n1]
       by_cases e : p = j.1
       · rw [if_pos e]
         rcases none_or (B (p, 0)) with q | ⟨b', q⟩
         · exact q.symm
         · have := (hl.blks.ne (p, 0) (by rw [q]; simp)).2.1
           unfold keyOk at this jok
           have h1 := this.1 rfl
           simp only [e] at h1
           exact absurd (jok.2 h1) hj
       · rw [if_neg e]
     rw [e1, e2] at hl'
     refine ⟨rfl, fun i => if i = j then none else B i, free ++ [b], ⟨⟨vI', vF', N', Mm, ?_⟩, ?_, fun k => ?_, ?_, by simpa using hmany⟩, hM, fun x hx => ?_⟩
     · rw [if_neg (fun q => hj q.1), List.append_nil]; exact hl'
     · rw [if_neg (fun q => hj q.1), List.append_nil]; exact h.pure.back_tail s1 hj
     · have hz : (if j.2 = 0 ∧ ¬ heldBy c.slots H j then [j.1] else ([] : List (List Nat))) = [] := if_neg (fun q => hj q.1)
       rw [hz, List.append_nil, live_back_tail s1 jok hne hj hheld k, ← h.dom k]
       by_cases e : k = j
       · simp [e]
       · simp [e]
     · rw [if_neg (fun q => hj q.1), List.append_nil, List.length_append, List.length_singleton]
       omega
     · by_cases e : x = j
       · simp [e] at hx
       · simp only [if_neg e]
def LeaveTo (F ok : Nat → Prop) (w : World) (g : Parts) (c : Cfg) (H : List Key) (il : List (List Nat)) (B : Key → Option Nat) (k : Key) (e : Ending) (w' : World) : Prop :=
 e = .returned (.tuple #[]) ∧ ∃ B' free', StoreI (grow F w) ok w' g c H (il ++ leftOf c.slots H k) B' free' ∧ Moves F w w' ∧ ∀ x, B' x ≠ none → B' x = B x
set_option maxRecDepth 100000 in
set_option maxHeartbeats 1000000 in
theorem leave_any (F ok : Nat → Prop) (g : Parts) (c : Cfg) (hc : c.ok) (H : List Key) (il : List (List Nat)) (B : Key → Option Nat) (free : List Nat) (k : Key) (w : World) (h : StoreI F ok w g c (k :: H) il B free) :
   Calls Tryz.prog 58 #[.pointer (some ⟨g.X, 0, none⟩), blkV (B k)] w fun e w' => LeaveTo F ok w g c H il B k e w' := by
 obtain ⟨s1, s2⟩ := hc.slots
 have Hj : Hid (∀ x y b, B x = some b → B y = some b → x = y) := by
   obtain ⟨vI, vF, N, Mm, hl⟩ := h.low
   exact hl.blks.inj
 obtain ⟨vk, hvk⟩ : ∃ vk, vk = blkV (B k) := ⟨_, rfl⟩
 rw [← hvk]
 have Hvk := hide hvk
 clear hvk
 go_enter Tryz.func58, Tryz.ntmps58
 go_wp2
 go_loopw [4, 5] (fun v _ wr => ∃ (j : Key) (il' : List (List Nat)) (B' : Key → Option Nat) (free' : List Nat), v = blkV (B' j) ∧ StoreI (grow F w) ok wr g c (j :: H) il' B' free' ∧ Hid (il' ++ leftOf c.slots H j = il ++ leftOf c.slots H k) ∧ Hid (∀ x, B' x ≠ none → B' x = B x) ∧ Moves F w wr) (fun v _ _ => keyLen B v)
 case atStart => exact ⟨k, il, B, free, Hvk.out, h.mono (fun k hk => .inl hk), rfl, fun _ _ => rfl, Moves.refl _ _⟩
 case round =>
   obtain ⟨j, il', B', free', rfl, hS, Hil, Hsub, hM⟩ := hrel
   by_cases hj : j.1 = []
   · have ev : blkV (B' j) = .pointer none := by rw [hS.nil hj]; rfl
     rw [ev]
     have HS := hide hS
     clear hS ev
     go_wp2
     refine bodyPost_end (v := .tuple #[]) (by simp [results, Tryz.results58]) rfl ⟨rfl, B', free', ?_, hM, Hsub.out⟩
     have e1 := Hil.out
     rw [leftOf_nil c.slots H j s1 hj, List.append_nil] at e1
     rw [← e1]
     have e2 : j = ([], 0) := by
       have := (HS.out.pure.key j (by simp)).1
       unfold keyOk at this
       exact Prod.ext hj (this.2 (by rw [hj]; simp))
     have hS := HS.out
     rw [e2] at hS
     exact hS.gone hc
   · obtain ⟨b, hb⟩ := some_of_ne (hS.head hj)
     obtain ⟨jok, _, _⟩ := hS.pure.key j (by simp)
     have hd := down_any (grow F w) ok g c hc H il' B' free' j wr hS hj
     have ev : blkV (B' j) = .pointer (some ⟨b, 0, none⟩) := by rw [hb]; rfl
     rw [ev] at hd ⊢
     have Hd := hide hd
     obtain ⟨vI, vF, N, Mm, hl⟩ := hS.low
     obtain ⟨x, hx, _⟩ := hl.blk hb
     have c1 : wr.cell? ⟨b, 1, none⟩ = some (blkV (B' (pred c.slots j))) := by rw [cell_blk hx]; rfl
     have HS := hide hS
     have hBj : B j = some b := by rw [← Hsub.out j (by rw [hb]; simp)]; exact hb
     have hpd := hl.blks.ahead j (by rw [hb]; simp)
     have Hpd := hide hpd
     clear hd hS hl hx ev hpd
     go_wp2_with fail
     refine Hd.out.mono ?_
     rintro e w1 ⟨rfl, B2, free2, hS2, hM2, hsub2⟩
     have Hsub2 := hide hsub2
     have HS2 := hide hS2
     clear hS2 hsub2 Hd
     go_wp2
     go_roundw
     case rel =>
       have e3 : B2 (pred c.slots j) = B' (pred c.slots j) := by
         by_cases e : (pred c.slots j).1 = []
         · rw [HS2.out.nil e]
           rcases none_or (B' (pred c.slots j)) with q | ⟨b', q⟩
           · exact q.symm
           · exact absurd e (HS.out.pure.live_ne ((HS.out.dom _).1 (by rw [q]; simp)))
         · exact Hsub2.out _ (HS2.out.head e)
       refine ⟨pred c.slots j, _, B2, free2, by rw [e3], HS2.out.mono (fun k hk => grow_mono hM.size k hk), ?_, fun x hx => ?_, hM.trans (hM2.mono (fun k _ hk => hk))⟩
       · show _ = _
         rw [← Hil.out, leftOf_step c.slots H j s1 jok hj, List.append_assoc]
       · have e4 := Hsub2.out x hx
         rw [e4]
         exact Hsub.out x (by rw [← e4]; exact hx)
     case measure =>
       have e1 : keyLen B (.pointer (some ⟨b, 0, none⟩)) = j.1.length + 1 := by
         have := keyLen_some Hj.out (k := j) (by rw [hBj]; simp)
         rw [hBj] at this
         exact this
       rw [e1]
       rcases none_or (B' (pred c.slots j)) with q | ⟨b', q⟩
       · have e2 : keyLen B (blkV (B' (pred c.slots j))) = 0 := by
           rw [q]
           have := keyLen_none (B := B) (k := ([], 0)) (by
             rcases none_or (B ([], 0)) with q | ⟨b', q⟩
             · exact q
             · have := (h.pure.live_ne ((h.dom ([], 0)).1 (by rw [q]; simp)))
               exact absurd rfl this)
           have e5 : B ([], 0) = none := by
             rcases none_or (B ([], 0)) with q | ⟨b', q⟩
             · exact q
             · exact absurd rfl (h.pure.live_ne ((h.dom ([], 0)).1 (by rw [q]; simp)))
           rw [e5] at this
           exact this
         rw [e2]; omega
       · have e3 : B (pred c.slots j) = some b' := by rw [← Hsub.out _ (by rw [q]; simp)]; exact q
         rw [q, ← e3, keyLen_some Hj.out (by rw [e3]; simp)]
         have := (pred_len c.slots j s1 hj).2
         omega
theorem live_evict {s v : Nat} {H : List Key} {il : List (List Nat)} {p : List Nat} (h : Pure s v H (p :: il)) (k : Key) : live s H il k ↔ live s H (p :: il) k ∧ k ≠ (p, 0) := by
 unfold live
 constructor
 · rintro (h1 | ⟨h1, h2⟩)
   · exact ⟨.inl h1, fun e => h.out p (by simp) (by rw [← e]; exact h1)⟩
   · refine ⟨.inr ⟨h1, by simp [h2]⟩, fun e => ?_⟩
     have := (List.nodup_cons.1 h.nodup).1
     rw [e] at h2
     exact this h2
 · rintro ⟨h1 | ⟨h1, h2⟩, h3⟩
   · exact .inl h1
   · rcases List.mem_cons.1 h2 with h2 | h2
     · exact absurd (Prod.ext h2 h1) h3
     · exact .inr ⟨h1, h2⟩
theorem Pure.first_back {s v : Nat} {H : List Key} {il : List (List Nat)} {p : List Nat} (h : Pure s v H (p :: il)) (hs : 1 ≤ s) {i : Key} (hi : live s H (p :: il) i) : pred s i ≠ (p, 0) := fun e => by
 have hpn := (h.whole p (by simp)).1
 have hpm := (h.whole p (by simp)).2.1
 have hin := h.live_ne hi
 have hpr : p <+: i.1 := by
   have : (pred s i).1 = p := by rw [e]
   rw [← this]; exact List.take_prefix _ _
 have hlt : p.length < i.1.length := by
   have := (pred_len s i hs hin).2
   rw [e] at this
   exact this
 rcases hi with ⟨x, hx, ho⟩ | ⟨h1, h2⟩
 · exact h.out p (by simp) ⟨x, hx, on_trans s x i (p, 0) ho ⟨hpn, .inr ⟨rfl, hpm, hpr⟩⟩⟩
 · rcases List.mem_cons.1 h2 with h2 | h2
   · rw [h2] at hlt; omega
   · exact (List.pairwise_cons.1 h.order).1 _ h2 hpr
def EvictTo (F ok : Nat → Prop) (w : World) (g : Parts) (c : Cfg) (H : List Key) (il' : List (List Nat)) (B : Key → Option Nat) (w' : World) : Prop :=
 ∃ B' free', StoreI (grow F w) ok w' g c H il' B' free' ∧ Moves F w w' ∧ ∀ x, B' x ≠ none → B' x = B x
set_option maxRecDepth 100000 in
set_option maxHeartbeats 1000000 in
theorem evict_one (F ok : Nat → Prop) (g : Parts) (c : Cfg) (hc : c.ok) (H : List Key) (p : List Nat) (il : List (List Nat)) (B : Key → Option Nat) (free : List Nat) (w : World) (h : StoreI F ok w g c H (p :: il) B free) :
   Calls Tryz.prog 61 #[.pointer (some ⟨g.X, 0, none⟩), blkV (B (p, 0)), .int .i64 1] w fun e w' => e = .returned (.tuple #[]) ∧ EvictTo F ok w g c H il B w' := by
 obtain ⟨s1, s2⟩ := hc.slots
 obtain ⟨vI, vF, N, Mm, hl⟩ := h.low
 obtain ⟨b, hb⟩ := some_of_ne (hl.ilN p (by simp))
 obtain ⟨hil, hfl⟩ := h.ilen hc
 rw [hb]
 refine (hl.down_free hc (p, 0) b hb (fun i hi => h.pure.first_back s1 ((h.dom i).1 hi)) (by omega) (by omega)).mono ?_
 rintro e w' ⟨rfl, vI', vF', N', hl', hM⟩
 have e1 : (p :: il).filter (fun q => decide ((q, 0) ≠ (p, 0))) = il := by
   have hnd := List.nodup_cons.1 h.pure.nodup
   rw [List.filter_cons_of_neg (by simp)]
   apply List.filter_eq_self.2
   intro q hq
   simp only [decide_eq_true_eq]
   exact fun e => hnd.1 (by injection e with e; rw [← e]; exact hq)
 have e2 : (fun q => if q = [] ++ p then none else B (q, 0)) = fun q => (fun i => if i = (p, 0) then none else B i) (q, 0) := by
   funext q
   simp only [List.nil_append, Prod.mk.injEq, and_true]
 rw [e1] at hl'
 have e3 : (fun q => if q = [] ++ (p, 0).1 then none else B (q, 0)) = fun q => (fun i => if i = (p, 0) then none else B i) (q, 0) := e2
 rw [e3] at hl'
 refine ⟨rfl, fun i => if i = (p, 0) then none else B i, free ++ [b], ⟨⟨vI', vF', N', Mm, hl'⟩, h.pure.evict, fun k => ?_, ?_, h.many⟩, hM, fun x hx => ?_⟩
 · rw [live_evict h.pure k, ← h.dom k]
   by_cases e : k = (p, 0)
   · simp [e]
   · simp [e]
 · have := h.count
   rw [List.length_append, List.length_singleton]
   simp only [List.length_cons] at this
   omega
 · by_cases e : x = (p, 0)
   · simp [e] at hx
   · simp only [if_neg e]
def evN (n : Int) (il : List (List Nat)) : Nat := min n.toNat il.length
set_option maxRecDepth 100000 in
set_option maxHeartbeats 1000000 in
theorem evict_some (F ok : Nat → Prop) (g : Parts) (c : Cfg) (hc : c.ok) (H : List Key) (il : List (List Nat)) (B : Key → Option Nat) (free : List Nat) (m : Nat) (hm : m ≤ il.length) (hm0 : 0 < m) (w : World) (h : StoreI F ok w g c H il B free) :
   Calls Tryz.prog 28 #[.pointer (some ⟨g.X, 0, none⟩), .int .i64 m] w fun e w' => e = .returned (.int .i64 (m : Nat)) ∧ EvictTo F ok w g c H (il.drop m) B w' := by
 obtain ⟨hil, hfl⟩ := h.ilen hc
 obtain ⟨vI, vF, N, Mm, hl⟩ := h.low
 obtain ⟨arr, o0, o1, o2, o3, o4, o5, o6, o7, o8⟩ := hl.obj
 have cI : w.cell? ⟨g.X, 12, none⟩ = some vI := by rw [cell_blk o0]; exact o7
 have hlen := listlen_any g.X 12 vI (ilB B il) w cI hl.list
 rw [show (ilB B il).length = il.length by unfold ilB; simp] at hlen
 have Hlen := hide hlen
 clear hlen hl o0 o1 o2 o3 o4 o5 o6 o7 o8 cI
 have j1 : (m : Int) ≤ (il.length : Int) := by omega
 have j2 : (0 : Int) < (m : Int) := by omega
 go_enter Tryz.func28, Tryz.ntmps28
 go_wp2_with fail
 refine Calls_use Hlen.out ?_
 go_wp2
 go_loopw [13] (fun i wr => ∃ k : Nat, k ≤ m ∧ i = .int .i64 k ∧ Hid (EvictTo F ok w g c H (il.drop k) B wr)) (fun i _ => m - (intOf i).toNat)
 case atStart => exact ⟨0, Nat.zero_le _, rfl, B, free, h.mono (fun k hk => .inl hk), Moves.refl _ _, fun _ _ => rfl⟩
 case round =>
   obtain ⟨k, hk, rfl, HE⟩ := hrel
   by_cases hlt : k < m
   · obtain ⟨B', free', hS, hM, hsub⟩ := HE.out
     obtain ⟨p, il2, hdr⟩ : ∃ p il2, il.drop k = p :: il2 := by
       cases hd : il.drop k with
       | nil => have := congrArg List.length hd; simp at this; omega
       | cons p il2 => exact ⟨p, il2, rfl⟩
     have hdr2 : il.drop (k + 1) = il2 := by
       have := congrArg (List.drop 1) hdr
       simpa [List.drop_drop] using this
     rw [hdr] at hS
     obtain ⟨vI, vF, N, Mm, hl⟩ := hS.low
     obtain ⟨arr, o0, o1, o2, o3, o4, o5, o6, o7, o8⟩ := hl.obj
     have cI : wr.cell? ⟨g.X, 12, none⟩ = some vI := by rw [cell_blk o0]; exact o7
     obtain ⟨b, hb⟩ := some_of_ne (hl.ilN p (by simp))
     have hfirst := listfirst_any g.X 12 b vI (ilB B' il2) wr cI (by have := hl.list; unfold ilB at this; simp only [List.map_cons, hb, Option.getD_some] at this; exact this) (by unfold ilB; have := congrArg List.length hdr; simp at this ⊢; omega)
     have hone := evict_one (grow F w) ok g c hc H p il2 B' free' wr hS
     rw [hb] at hone
     unfold ptrV at hfirst
     unfold blkV at hone
     have Hfirst := hide hfirst
     have Hone := hide hone
     have Hsub := hide hsub
     have Hdr2 := hide hdr2
     have jlt : (k : Int) < (m : Nat) := by omega
     clear hfirst hone hsub hdr2 hdr hl hS HE o0 o1 o2 o3 o4 o5 o6 o7 o8 cI
     go_wp2_with fail
     refine Calls_use Hfirst.out ?_
     go_wp2_with fail
     refine Hone.out.mono ?_
     rintro e w1 ⟨rfl, B2, free2, hS2, hM2, hsub2⟩
     have Hsub2 := hide hsub2
     have HS2 := hide hS2
     clear Hfirst Hone hS2 hsub2
     go_wp2
     go_roundw
     case rel =>
       refine ⟨k + 1, by omega, by go_num, B2, free2, by rw [Hdr2.out]; exact HS2.out.mono (fun k hk => grow_mono hM.size k hk), hM.trans hM2, fun x hx => ?_⟩
       have e4 := Hsub2.out x hx
       rw [e4]
       exact Hsub.out x (by rw [← e4]; exact hx)
     case measure => simp [intOf]; omega
   · have hke : k = m := by omega
     subst hke
     go_wp2
     go_ret
     exact ⟨rfl, HE.out⟩
set_option maxRecDepth 100000 in
set_option maxHeartbeats 1000000 in
theorem evict_most (F ok : Nat → Prop) (g : Parts) (c : Cfg) (hc : c.ok) (H : List Key) (il : List (List Nat)) (B : Key → Option Nat) (free : List Nat) (n : Int) (hn : (il.length : Int) < n) (hl0 : 0 < il.length) (w : World) (h : StoreI F ok w g c H il B free) :
   Calls Tryz.prog 28 #[.pointer (some ⟨g.X, 0, none⟩), .int .i64 n] w fun e w' => e = .returned (.int .i64 (il.length : Nat)) ∧ EvictTo F ok w g c H (il.drop il.length) B w' := by
 obtain ⟨hil, hfl⟩ := h.ilen hc
 obtain ⟨vI, vF, N, Mm, hl⟩ := h.low
 obtain ⟨arr, o0, o1, o2, o3, o4, o5, o6, o7, o8⟩ := hl.obj
 have cI : w.cell? ⟨g.X, 12, none⟩ = some vI := by rw [cell_blk o0]; exact o7
 have hlen := listlen_any g.X 12 vI (ilB B il) w cI hl.list
 rw [show (ilB B il).length = il.length by unfold ilB; simp] at hlen
 have Hlen := hide hlen
 clear hlen hl o0 o1 o2 o3 o4 o5 o6 o7 o8 cI
 have j1 : ¬ n ≤ (il.length : Int) := by omega
 have j2 : (0 : Int) < (il.length : Int) := by omega
 go_enter Tryz.func28, Tryz.ntmps28
 go_wp2_with fail
 refine Calls_use Hlen.out ?_
 go_wp2
 go_loopw [13] (fun i wr => ∃ k : Nat, k ≤ il.length ∧ i = .int .i64 k ∧ Hid (EvictTo F ok w g c H (il.drop k) B wr)) (fun i _ => il.length - (intOf i).toNat)
 case atStart => exact ⟨0, Nat.zero_le _, rfl, B, free, h.mono (fun k hk => .inl hk), Moves.refl _ _, fun _ _ => rfl⟩
 case round =>
   obtain ⟨k, hk, rfl, HE⟩ := hrel
   by_cases hlt : k < il.length
   · obtain ⟨B', free', hS, hM, hsub⟩ := HE.out
     obtain ⟨p, il2, hdr⟩ : ∃ p il2, il.drop k = p :: il2 := by
       cases hd : il.drop k with
       | nil => have := congrArg List.length hd; simp at this; omega
       | cons p il2 => exact ⟨p, il2, rfl⟩
     have hdr2 : il.drop (k + 1) = il2 := by
       have := congrArg (List.drop 1) hdr
       simpa [List.drop_drop] using this
     rw [hdr] at hS
     obtain ⟨vI, vF, N, Mm, hl⟩ := hS.low
     obtain ⟨arr, o0, o1, o2, o3, o4, o5, o6, o7, o8⟩ := hl.obj
     have cI : wr.cell? ⟨g.X, 12, none⟩ = some vI := by rw [cell_blk o0]; exact o7
     obtain ⟨b, hb⟩ := some_of_ne (hl.ilN p (by simp))
     have hfirst := listfirst_any g.X 12 b vI (ilB B' il2) wr cI (by have := hl.list; unfold ilB at this; simp only [List.map_cons, hb, Option.getD_some] at this; exact this) (by unfold ilB; have := congrArg List.length hdr; simp at this ⊢; omega)
     have hone := evict_one (grow F w) ok g c hc H p il2 B' free' wr hS
     rw [hb] at hone
     unfold ptrV at hfirst
     unfold blkV at hone
     have Hfirst := hide hfirst
     have Hone := hide hone
     have Hsub := hide hsub
     have Hdr2 := hide hdr2
     have jlt : (k : Int) < (il.length : Nat) := by omega
     clear hfirst hone hsub hdr2 hdr hl hS HE o0 o1 o2 o3 o4 o5 o6 o7 o8 cI
     go_wp2_with fail
     refine Calls_use Hfirst.out ?_
     go_wp2_with fail
     refine Hone.out.mono ?_
     rintro e w1 ⟨rfl, B2, free2, hS2, hM2, hsub2⟩
     have Hsub2 := hide hsub2
     have HS2 := hide hS2
     clear Hfirst Hone hS2 hsub2
     go_wp2
     go_roundw
     case rel =>
       refine ⟨k + 1, by omega, by go_num, B2, free2, by rw [Hdr2.out]; exact HS2.out.mono (fun k hk => grow_mono hM.size k hk), hM.trans hM2, fun x hx => ?_⟩
       have e4 := Hsub2.out x hx
       rw [e4]
       exact Hsub.out x (by rw [← e4]; exact hx)
     case measure => simp [intOf]; omega
   · have hke : k = il.length := by omega
     subst hke
     go_wp2
     go_ret
     exact ⟨rfl, HE.out⟩
set_option maxRecDepth 100000 in
set_option maxHeartbeats 1000000 in
theorem evict_none (F ok : Nat → Prop) (g : Parts) (c : Cfg) (hc : c.ok) (H : List Key) (il : List (List Nat)) (B : Key → Option Nat) (free : List Nat) (n : Int) (hn : n ≤ 0) (w : World) (h : StoreI F ok w g c H il B free) :
   Calls Tryz.prog 28 #[.pointer (some ⟨g.X, 0, none⟩), .int .i64 n] w fun e w' => e = .returned (.int .i64 0) ∧ w' = w := by
 obtain ⟨hil, hfl⟩ := h.ilen hc
 obtain ⟨vI, vF, N, Mm, hl⟩ := h.low
 obtain ⟨arr, o0, o1, o2, o3, o4, o5, o6, o7, o8⟩ := hl.obj
 have cI : w.cell? ⟨g.X, 12, none⟩ = some vI := by rw [cell_blk o0]; exact o7
 have hlen := listlen_any g.X 12 vI (ilB B il) w cI hl.list
 rw [show (ilB B il).length = il.length by unfold ilB; simp] at hlen
 have Hlen := hide hlen
 have j1 : n ≤ (il.length : Int) := by omega
 have j2 : ¬ (0 : Int) < n := by omega
 clear hlen hl o0 o1 o2 o3 o4 o5 o6 o7 o8 cI
 go_enter Tryz.func28, Tryz.ntmps28
 go_wp2_with fail
 refine Calls_use Hlen.out ?_
 go_wp2
 go_loopw [13] (fun i wr => i = .int .i64 0 ∧ wr = w) (fun _ _ => 0)
 case atStart => exact ⟨rfl, rfl⟩
 case round =>
   obtain ⟨rfl, rfl⟩ := hrel
   go_wp2
   go_ret
   exact ⟨rfl, rfl⟩
set_option maxRecDepth 100000 in
set_option maxHeartbeats 1000000 in
theorem evict_empty (F ok : Nat → Prop) (g : Parts) (c : Cfg) (hc : c.ok) (H : List Key) (il : List (List Nat)) (B : Key → Option Nat) (free : List Nat) (n : Int) (hn : 0 < n) (hl0 : il.length = 0) (w : World) (h : StoreI F ok w g c H il B free) :
   Calls Tryz.prog 28 #[.pointer (some ⟨g.X, 0, none⟩), .int .i64 n] w fun e w' => e = .returned (.int .i64 0) ∧ w' = w := by
 obtain ⟨hil, hfl⟩ := h.ilen hc
 obtain ⟨vI, vF, N, Mm, hl⟩ := h.low
 obtain ⟨arr, o0, o1, o2, o3, o4, o5, o6, o7, o8⟩ := hl.obj
 have cI : w.cell? ⟨g.X, 12, none⟩ = some vI := by rw [cell_blk o0]; exact o7
 have hlen := listlen_any g.X 12 vI (ilB B il) w cI hl.list
 rw [show (ilB B il).length = il.length by unfold ilB; simp] at hlen
 have Hlen := hide hlen
 rw [hl0] at Hlen
 have j1 : ¬ n ≤ (0 : Int) := by omega
 have j2 : ¬ n < (0 : Int) := by omega
 clear hlen hl o0 o1 o2 o3 o4 o5 o6 o7 o8 cI
 go_enter Tryz.func28, Tryz.ntmps28
 go_wp2_with fail
 refine Calls_use Hlen.out ?_
 go_wp2
 go_loopw [13] (fun i wr => i = .int .i64 0 ∧ wr = w) (fun _ _ => 0)
 case atStart => exact ⟨rfl, rfl⟩
 case round =>
   obtain ⟨rfl, rfl⟩ := hrel
   go_wp2
   go_ret
   exact ⟨rfl, rfl⟩
theorem evict_any (F ok : Nat → Prop) (g : Parts) (c : Cfg) (hc : c.ok) (H : List Key) (il : List (List Nat)) (B : Key → Option Nat) (free : List Nat) (n : Int) (w : World) (h : StoreI F ok w g c H il B free) :
   Calls Tryz.prog 28 #[.pointer (some ⟨g.X, 0, none⟩), .int .i64 n] w fun e w' => e = .returned (.int .i64 (evN n il)) ∧ EvictTo F ok w g c H (il.drop (evN n il)) B w' := by
 have stay : ∀ (e : Ending) (w' : World), e = .returned (.int .i64 0) ∧ w' = w → evN n il = 0 → e = .returned (.int .i64 (evN n il)) ∧ EvictTo F ok w g c H (il.drop (evN n il)) B w' := by
   rintro e w' ⟨rfl, rfl⟩ e1
   rw [e1]
   exact ⟨rfl, B, free, h.mono (fun k hk => .inl hk), Moves.refl _ _, fun _ _ => rfl⟩
 by_cases h0 : n ≤ 0
 · exact (evict_none F ok g c hc H il B free n h0 w h).mono (fun e w' he => stay e w' he (by unfold evN; omega))
 · by_cases hl0 : il.length = 0
   · exact (evict_empty F ok g c hc H il B free n (by omega) hl0 w h).mono (fun e w' he => stay e w' he (by unfold evN; omega))
   · by_cases h1 : (il.length : Int) < n
     · have e1 : evN n il = il.length := by unfold evN; omega
       rw [e1]
       exact evict_most F ok g c hc H il B free n h1 (by omega) w h
     · obtain ⟨m, rfl⟩ : ∃ m : Nat, n = m := ⟨n.toNat, by omega⟩
       have e1 : evN m il = m := by unfold evN; omega
       rw [e1]
       exact evict_some F ok g c hc H il B free m (by omega) (by omega) w h
theorem use_any (F ok : Nat → Prop) (g : Parts) (c : Cfg) (hc : c.ok) (H : List Key) (il : List (List Nat)) (B : Key → Option Nat) (free : List Nat) (k : Key) (w : World) (h : StoreI F ok w g c H il B free) (hk : k = ([], 0) ∨ live c.slots H il k) (hm : H.length ≤ 99) :
   Calls Tryz.prog 56 #[.pointer (some ⟨g.X, 0, none⟩), blkV (B k)] w fun e w' => e = .returned (.tuple #[]) ∧ StoreI (grow F w) ok w' g c (k :: H) (notUp k.1 il) B free ∧ Moves F w w' := by
 obtain ⟨s1, s2⟩ := hc.slots
 obtain ⟨hil, hfl⟩ := h.ilen hc
 obtain ⟨vI, vF, N, Mm, hl⟩ := h.low
 have hmany := h.many
 refine (use_low F ok g c hc B _ _ il free vI vF N Mm k w hl (by omega) (fun x => by have := users_le c.slots H x; omega) (fun e => h.nil e) (fun e => ?_)).mono ?_
 · rcases hk with rfl | hk
   · exact absurd rfl e
   · exact (h.dom k).2 hk
 · rintro e w' ⟨rfl, vI', hl', hM⟩
   have e1 : (fun x => users c.slots H x + if on c.slots k x then 1 else 0) = users c.slots (k :: H) := by
     funext x
     rw [users_cons]
   have e2 : il.filter (fun p => decide (¬ on c.slots k (p, 0))) = notUp k.1 il := by
     unfold notUp
     apply List.filter_congr
     intro p hp
     obtain ⟨q1, q2, _⟩ := h.pure.whole p hp
     rw [Bool.eq_iff_iff]
     simp only [decide_eq_true_eq]
     constructor
     · intro hn hpf
       exact hn ⟨q1, .inr ⟨rfl, q2, hpf⟩⟩
     · rintro hn ⟨_, e | ⟨_, _, e⟩⟩
       · exact hn (by rw [← e]; exact List.prefix_refl _)
       · exact hn e
   rw [e1, e2] at hl'
   refine ⟨rfl, ⟨⟨vI', vF, N, Mm, hl'⟩, h.pure.use hk, fun j => (h.dom j).trans (live_use h.pure hk j).symm, ?_, by simp; omega⟩, hM⟩
   have := nUsed_use s1 h.pure hk
   have := h.count
   omega
set_option maxRecDepth 100000 in
set_option maxHeartbeats 1000000 in
theorem reflogits_any (c : Cfg) (hc : c.ok) (d s : Nat) (W0 w : World) (vX : Value) (x : Nat → Int) (hd : RefDec W0 d c) (hB : Below W0.heap.size W0 w) (hsl : s < w.heap.size) (hs : w.cell? ⟨s, 2, none⟩ = some vX) (hX : IntsT w vX c.width x) (bx : ∀ j, -4095 ≤ x j ∧ x j ≤ 4095) :
   Calls Tryz.prog 53 #[.pointer (some ⟨d, 0, none⟩), .pointer (some ⟨s, 0, none⟩)] w fun e w' =>
     ∃ r, e = .returned r ∧ IntsT w' r c.vocab (logitsOf c x) ∧ Below w.heap.size w w' := by
 obtain ⟨w1, w2⟩ := c.width_bd hc
 obtain ⟨ww1, ww2⟩ := c.ww_bd hc
 obtain ⟨e1, e2⟩ := hc.layers
 obtain ⟨d1, d2⟩ := hc.vocab
 have hmany := c.many_bd hc
 obtain ⟨_, hf2⟩ := c.fits 0 (by omega)
 have hdl := hd.lt
 obtain ⟨vW, g7, gW, g2, g3, g4, g5, g8⟩ := hd.cells
 have p2 := (hB.cell (p := ⟨d, 2, none⟩) hdl).trans g2
 have p5 := (hB.cell (p := ⟨d, 5, none⟩) hdl).trans g5
 have p8 := (hB.cell (p := ⟨d, 8, none⟩) hdl).trans g8
 have hvw1 : 0 ≤ (c.vocab : Int) * c.width := Int.mul_nonneg (by omega) (by omega)
 have hvw2 : (c.vocab : Int) * c.width ≤ 12 * 8 := Int.mul_le_mul (by omega) (by omega) (by omega) (by omega)
 have hlw0 : (c.layers : Int) * 8 * c.width ≤ 16 * 8 := Int.mul_le_mul (by omega) (by omega) (by omega) (by omega)
 have hlw1 : 0 ≤ (c.layers : Int) * 8 * c.width := Int.mul_nonneg (by omega) (by omega)
 have hlw2 : (c.layers : Int) * 8 * c.width * c.width ≤ 128 * 8 := Int.mul_le_mul (by omega) (by omega) (by omega) (by omega)
 have hlw3 : 0 ≤ (c.layers : Int) * 8 * c.width * c.width := Int.mul_nonneg (by omega) (by omega)
 have hfrom : (c.vocab : Int) * c.width + (c.layers : Int) * 8 * c.width * c.width = c.headAt := by unfold Cfg.headAt Cfg.ww; simp [Int.mul_assoc]
 have hlim : c.headAt ≤ 1216 := by unfold Cfg.headAt; omega
 have hfit : Hid (c.headAt + c.vocab * c.width ≤ c.many) := by show c.headAt + c.vocab * c.width ≤ c.many; unfold Cfg.headAt; omega
 clear g2 g3 g4 g5 g7 gW g8 hf2
 go_enter Tryz.func53, Tryz.ntmps53
 go_wp2
 go_quiet (fail)
 clear hfrom hvw1 hvw2 hlw0 hlw1 hlw2 hlw3
 have hdl1 : d < w.heap.size := by have := hB.size; omega
 have hBn : Below w.heap.size w w := Below.refl _ _
 go_wp2_with fail
 go_region_held3 (fun w' => w'.cell? ⟨d, 5, none⟩ = some (.int .i64 c.vocab) ∧ w'.cell? ⟨s, 2, none⟩ = some vX)
   (exact ⟨(hBn.cell (p := ⟨d, 5, none⟩) hdl1).trans p5, (hBn.cell (p := ⟨s, 2, none⟩) hsl).trans hs⟩)
   (first
     | (go_at_call 80; refine (refnorm_T c.width _ vX x (by exact hX) (by omega) (by omega) bx).mono ?_; rintro e x4 ⟨ym, rfl, hym, hbA⟩; replace hbA := below_of_drewN hbA; replace hBn := hBn.trans (hbA.mono hBn.size))
     | (go_at_call 79; refine (reftimes_T c hc W0 _ d c.headAt c.vocab c.width ym _ hd (hB.trans (hBn.mono hB.size)) hym hfit.out (by omega) (by omega) (normOf_bd _ _)).mono ?_; rintro e x5 ⟨rr, rfl, hrr, hbB⟩; replace hBn := hBn.trans (hbB.mono hBn.size)))
 go_wp2
 go_ret
 exact ⟨_, rfl, hrr, hBn⟩
end Go.Proofs.YtlmflighkkgikaaGreat
