import Derived.Test.YtlmflighkkgikaaP29

namespace Go.Proofs.Ytlmflighkkgikaa
open Go.RowKit
attribute [local go_sem ↓] Go.wp_at_zero Go.wp_at_succ
structure StoreI (F ok : Nat → Prop) (w : World) (g : Parts) (c : Cfg) (H : List Key) (il : List (List Nat)) (B : Key → Option Nat) (free : List Nat) : Prop where
 low : ∃ vI vF N Mm, LowX F ok w g c B (users c.slots H) (fun p => B (p, 0)) il free vI vF N Mm
 pure : Pure c.slots c.vocab H il
 dom : ∀ k, B k ≠ none ↔ live c.slots H il k
 count : free.length + il.length + nUsed c.slots H = c.blocks
 many : H.length ≤ 100
section
variable {F ok : Nat → Prop} {w w' : World} {g : Parts} {c : Cfg} {H : List Key} {il : List (List Nat)} {B : Key → Option Nat} {free : List Nat}
theorem StoreI.mono {F' : Nat → Prop} (h : StoreI F ok w g c H il B free) (hm : ∀ k, F k → F' k) : StoreI F' ok w g c H il B free := by
 obtain ⟨vI, vF, N, Mm, hl⟩ := h.low
 exact ⟨⟨vI, vF, N, Mm, hl.mono hm⟩, h.pure, h.dom, h.count, h.many⟩
theorem StoreI.below (h : StoreI F ok w g c H il B free) (hb : Below w.heap.size w w') : StoreI F ok w' g c H il B free := by
 obtain ⟨vI, vF, N, Mm, hl⟩ := h.low
 exact ⟨⟨vI, vF, N, Mm, hl.below hb⟩, h.pure, h.dom, h.count, h.many⟩
theorem StoreI.ilen (h : StoreI F ok w g c H il B free) (hc : c.ok) : il.length ≤ 32 ∧ free.length ≤ 32 := by
 have := h.count
 have := hc.blocks.2
 omega
theorem StoreI.nil (h : StoreI F ok w g c H il B free) {k : Key} (hk : k.1 = []) : B k = none := by
 rcases none_or (B k) with e | ⟨b, e⟩
 · exact e
 · exact absurd hk (h.pure.live_ne ((h.dom k).1 (by rw [e]; simp)))
theorem StoreI.head {k : Key} (h : StoreI F ok w g c (k :: H) il B free) (hne : k.1 ≠ []) : B k ≠ none := (h.dom k).2 (.inl ((heldBy_cons _ _ _ _).2 (.inl (on_self _ _ hne))))
theorem StoreI.mem {k : Key} (h : StoreI F ok w g c H il B free) (hm : k ∈ H) (hne : k.1 ≠ []) : B k ≠ none := (h.dom k).2 (.inl ⟨k, hm, on_self _ _ hne⟩)
theorem StoreI.seqAt (h : StoreI F ok w g c H il B free) (k : Key) (hk : k.1 ≠ [] → live c.slots H il k) : SeqAt ok w c B (users c.slots H) k := by
 obtain ⟨vI, vF, N, Mm, hl⟩ := h.low
 exact ⟨hl.blks, fun e => h.nil e, fun e => (h.dom k).2 (hk e)⟩
theorem StoreI.gone (h : StoreI F ok w g c (([], 0) :: H) il B free) (hc : c.ok) : StoreI F ok w g c H il B free := by
 obtain ⟨vI, vF, N, Mm, hl⟩ := h.low
 have hp := h.pure.gone
 have eu : users c.slots (([], 0) :: H) = users c.slots H := by
   funext k
   rw [users_cons, if_neg (on_nil c.slots k 0)]; rfl
 rw [eu] at hl
 refine ⟨⟨vI, vF, N, Mm, hl⟩, hp, fun k => (h.dom k).trans (live_gone k), ?_, by have := h.many; simp at this; omega⟩
 rw [← nUsed_nil c.slots H 0 hc.slots.1 hp.ok rfl]
 exact h.count
theorem StoreI.perm {H' : List Key} (h : StoreI F ok w g c H il B free) (hc : c.ok) (hp : H.Perm H') : StoreI F ok w g c H' il B free := by
 obtain ⟨vI, vF, N, Mm, hl⟩ := h.low
 have eu : users c.slots H = users c.slots H' := by
   funext k
   exact users_perm c.slots hp k
 rw [eu] at hl
 have hm : ∀ x, x ∈ H ↔ x ∈ H' := fun x => hp.mem_iff
 have hb : ∀ k, heldBy c.slots H k ↔ heldBy c.slots H' k := fun k => ⟨fun ⟨x, hx, e⟩ => ⟨x, (hm x).1 hx, e⟩, fun ⟨x, hx, e⟩ => ⟨x, (hm x).2 hx, e⟩⟩
 refine ⟨⟨vI, vF, N, Mm, hl⟩, h.pure.perm hm, fun k => (h.dom k).trans ?_, ?_, by rw [← hp.length_eq]; exact h.many⟩
 · unfold live; rw [hb k]
 · rw [← nUsed_perm c.slots H H' hc.slots.1 h.pure.ok hm]; exact h.count
end
def DownTo (F ok : Nat → Prop) (w : World) (g : Parts) (c : Cfg) (H : List Key) (il : List (List Nat)) (B : Key → Option Nat) (j : Key) (e : Ending) (w' : World) : Prop :=
 e = .returned (.tuple #[]) ∧ ∃ B' free', StoreI (grow F w) ok w' g c (pred c.slots j :: H) (il ++ if j.2 = 0 ∧ ¬ heldBy c.slots H j then [j.1] else []) B' free' ∧ Moves F w w' ∧ ∀ x, B' x ≠ none → B' x = B x
set_option maxRecDepth 100000 in
set_option maxHeartbeats 1000000 in
theorem down_any (F ok : Nat → Prop) (g : Parts) (c : Cfg) (hc : c.ok) (H : List Key) (il : List (List Nat)) (B : Key → Option Nat) (free : List Nat) (j : Key) (w : World) (h : StoreI F ok w g c (j :: H) il B free) (hne : j.1 ≠ []) :
   Calls Try.prog 42 #[.pointer (some ⟨g.X, 0, none⟩), blkV (B j), .int .i64 0] w fun e w' => DownTo F ok w g c H il B j e w' := by
 obtain ⟨s1, s2⟩ := hc.slots
 obtain ⟨vI, vF, N, Mm, hl⟩ := h.low
 obtain ⟨b, hb⟩ := some_of_ne (h.head hne)
 obtain ⟨jok, jl, jt⟩ := h.pure.key j (by simp)
 obtain ⟨hil, hfl⟩ := h.ilen hc
 have hmany := h.many
 have hcount := h.count
 have hst := fun i => users_step c.slots j H i s1 jok hne
 have hpok := h.pure.ok
 have hHok : ∀ x ∈ H, keyOk c.slots x := fun x hx => hpok x (by simp [hx])
 have hnu := nUsed_step c.slots j H s1 jok hHok hne
 have hUj : users c.slots (j :: H) j = users c.slots H j + 1 := by rw [users_cons, if_pos (on_self _ _ hne)]
 rw [hb]
 by_cases hheld : heldBy c.slots H j
 · obtain ⟨n, hn⟩ : ∃ n, users c.slots H j = n + 1 := ⟨users c.slots H j - 1, by have := (users_pos c.slots H j).2 hheld; omega⟩
   refine (hl.down_more j b n hb (by omega) (by have := users_le c.slots H j; simp at hmany; omega)).mono ?_
   rintro e w' ⟨rfl, hl', hM⟩
   rw [if_pos hheld] at hnu
   refine ⟨rfl, B, free, ⟨⟨vI, vF, N, Mm, ?_⟩, ?_, fun k => ?_, ?_, by simpa using hmany⟩, hM, fun _ _ => rfl⟩
   · have eu : (fun i => if i = j then n + 1 else users c.slots (j :: H) i) = users c.slots (pred c.slots j :: H) := by
       funext i
       have q := hst i
       by_cases e : i = j
       · rw [if_pos e]
         rw [if_pos e, e] at q
         rw [e]; omega
       · rw [if_neg e]
         rw [if_neg e] at q
         omega
     rw [eu] at hl'
     rw [if_neg (fun q => q.2 hheld), List.append_nil]
     exact hl'.mono (fun k hk => .inl hk)
   · rw [if_neg (fun q => q.2 hheld), List.append_nil]
     exact h.pure.back_held s1 hheld
   · rw [if_neg (fun q => q.2 hheld), List.append_nil]
     exact (h.dom k).trans (live_back_held s1 jok hheld k).symm
   · rw [if_neg (fun q => q.2 hheld), List.append_nil]
     omega
 · have hU1 : users c.slots (j :: H) j = 1 := by have := (users_zero c.slots H j).2 hheld; omega
   rw [if_neg hheld] at hnu
   have eu : (fun i => if i = j then 0 else users c.slots (j :: H) i) = users c.slots (pred c.slots j :: H) := by
     funext i
     have q := hst i
     by_cases e : i = j
     · rw [if_pos e]
       rw [if_pos e, e] at q
       rw [e]; omega
     · rw [if_neg e]
       rw [if_neg e] at q
       omega
   by_cases hj : j.2 = 0
   · have hnot : j.1 ∉ il := fun hm => h.pure.out j.1 hm ((heldBy_cons _ _ _ _).2 (.inl (by
       rw [show (j.1, 0) = j from Prod.ext rfl hj.symm]; exact on_self _ _ hne)))
     refine (hl.down_idle hc j b hb hU1 hj hnot (by omega)).mono ?_
     rintro e w' ⟨rfl, vI', hl', hM⟩
     rw [eu] at hl'
     have ej : j = (j.1, 0) := Prod.ext rfl hj
     have hp0 := h.pure
     have hd0 := h.dom
     refine ⟨rfl, B, free, ⟨⟨vI', vF, N, Mm, ?_⟩, ?_, fun k => ?_, ?_, by simpa using hmany⟩, hM, fun _ _ => rfl⟩
     · rw [if_pos ⟨hj, hheld⟩]; exact hl'
     · rw [if_pos ⟨hj, hheld⟩]
       generalize j.1 = p at *
       subst ej
       exact hp0.back_idle s1 hne hheld
     · rw [if_pos ⟨hj, hheld⟩]
       refine (hd0 k).trans ?_
       generalize j.1 = p at *
       subst ej
       exact (live_back_idle s1 jok hne k).symm
     · rw [if_pos ⟨hj, hheld⟩, List.length_append, List.length_singleton]
       omega
   · refine (hl.down_tail hc j b hb hU1 hj (fun i _ e => hj (by rw [← e]; rfl)) (by omega) (by omega)).mono ?_
     rintro e w' ⟨rfl, vI', vF', N', hl', hM⟩
     rw [eu] at hl'
     have e1 : il.filter (fun p => decide ((p, 0) ≠ j)) = il := by
       apply List.filter_eq_self.2
       intro p _
       simp only [decide_eq_true_eq]
       exact fun e => hj (by rw [← e])
     have e2 : (fun p => if p = [] ++ j.1 then none else B (p, 0)) = fun p => (fun i => if i = j then none else B i) (p, 0) := by
       funext p
       have n1 : (p, 0) ≠ j := fun e => hj (by rw [← e])
       simp only [List.nil_append, if_neg n1]
       by_cases e : p = j.1
       · rw [if_pos e]
         rcases none_or (B (p, 0)) with q | ⟨b', q⟩
         · exact q.symm
         · have := (hl.blks.ne (p, 0) (by rw [q]; simp)).2.1
           unfold keyOk at this jok
           have h1 := this.1 rfl
           simp only [e] at h1
           exact absurd (jok.2 h1) hj
       · rw [if_neg e]
     rw [e1, e2] at hl'
     refine ⟨rfl, fun i => if i = j then none else B i, free ++ [b], ⟨⟨vI', vF', N', Mm, ?_⟩, ?_, fun k => ?_, ?_, by simpa using hmany⟩, hM, fun x hx => ?_⟩
     · rw [if_neg (fun q => hj q.1), List.append_nil]; exact hl'
     · rw [if_neg (fun q => hj q.1), List.append_nil]; exact h.pure.back_tail s1 hj
     · have hz : (if j.2 = 0 ∧ ¬ heldBy c.slots H j then [j.1] else ([] : List (List Nat))) = [] := if_neg (fun q => hj q.1)
       rw [hz, List.append_nil, live_back_tail s1 jok hne hj hheld k, ← h.dom k]
       by_cases e : k = j
       · simp [e]
       · simp [e]
     · rw [if_neg (fun q => hj q.1), List.append_nil, List.length_append, List.length_singleton]
       omega
     · by_cases e : x = j
       · simp [e] at hx
       · simp only [if_neg e]
def LeaveTo (F ok : Nat → Prop) (w : World) (g : Parts) (c : Cfg) (H : List Key) (il : List (List Nat)) (B : Key → Option Nat) (k : Key) (e : Ending) (w' : World) : Prop :=
 e = .returned (.tuple #[]) ∧ ∃ B' free', StoreI (grow F w) ok w' g c H (il ++ leftOf c.slots H k) B' free' ∧ Moves F w w' ∧ ∀ x, B' x ≠ none → B' x = B x
set_option maxRecDepth 100000 in
set_option maxHeartbeats 1000000 in
theorem leave_any (F ok : Nat → Prop) (g : Parts) (c : Cfg) (hc : c.ok) (H : List Key) (il : List (List Nat)) (B : Key → Option Nat) (free : List Nat) (k : Key) (w : World) (h : StoreI F ok w g c (k :: H) il B free) :
   Calls Try.prog 39 #[.pointer (some ⟨g.X, 0, none⟩), blkV (B k)] w fun e w' => LeaveTo F ok w g c H il B k e w' := by
 obtain ⟨s1, s2⟩ := hc.slots
 have Hj : Hid (∀ x y b, B x = some b → B y = some b → x = y) := by
   obtain ⟨vI, vF, N, Mm, hl⟩ := h.low
   exact hl.blks.inj
 obtain ⟨vk, hvk⟩ : ∃ vk, vk = blkV (B k) := ⟨_, rfl⟩
 rw [← hvk]
 have Hvk := hide hvk
 clear hvk
 go_enter Try.func39, Try.ntmps39
 go_wp2
 go_loopw [4, 5] (fun v _ wr => ∃ (j : Key) (il' : List (List Nat)) (B' : Key → Option Nat) (free' : List Nat), v = blkV (B' j) ∧ StoreI (grow F w) ok wr g c (j :: H) il' B' free' ∧ Hid (il' ++ leftOf c.slots H j = il ++ leftOf c.slots H k) ∧ Hid (∀ x, B' x ≠ none → B' x = B x) ∧ Moves F w wr) (fun v _ _ => keyLen B v)
 case atStart => exact ⟨k, il, B, free, Hvk.out, h.mono (fun k hk => .inl hk), rfl, fun _ _ => rfl, Moves.refl _ _⟩
 case round =>
   obtain ⟨j, il', B', free', rfl, hS, Hil, Hsub, hM⟩ := hrel
   by_cases hj : j.1 = []
   · have ev : blkV (B' j) = .pointer none := by rw [hS.nil hj]; rfl
     rw [ev]
     have HS := hide hS
     clear hS ev
     go_wp2
     refine bodyPost_end (v := .tuple #[]) (by simp [results, Try.results39]) rfl ⟨rfl, B', free', ?_, hM, Hsub.out⟩
     have e1 := Hil.out
     rw [leftOf_nil c.slots H j s1 hj, List.append_nil] at e1
     rw [← e1]
     have e2 : j = ([], 0) := by
       have := (HS.out.pure.key j (by simp)).1
       unfold keyOk at this
       exact Prod.ext hj (this.2 (by rw [hj]; simp))
     have hS := HS.out
     rw [e2] at hS
     exact hS.gone hc
   · obtain ⟨b, hb⟩ := some_of_ne (hS.head hj)
     obtain ⟨jok, _, _⟩ := hS.pure.key j (by simp)
     have hd := down_any (grow F w) ok g c hc H il' B' free' j wr hS hj
     have ev : blkV (B' j) = .pointer (some ⟨b, 0, none⟩) := by rw [hb]; rfl
     rw [ev] at hd ⊢
     have Hd := hide hd
     obtain ⟨vI, vF, N, Mm, hl⟩ := hS.low
     obtain ⟨x, hx, _⟩ := hl.blk hb
     have c1 : wr.cell? ⟨b, 1, none⟩ = some (blkV (B' (pred c.slots j))) := by rw [cell_blk hx]; rfl
     have HS := hide hS
     have hBj : B j = some b := by rw [← Hsub.out j (by rw [hb]; simp)]; exact hb
     have hpd := hl.blks.ahead j (by rw [hb]; simp)
     have Hpd := hide hpd
     clear hd hS hl hx ev hpd
     go_wp2_with fail
     refine Hd.out.mono ?_
     rintro e w1 ⟨rfl, B2, free2, hS2, hM2, hsub2⟩
     have Hsub2 := hide hsub2
     have HS2 := hide hS2
     clear hS2 hsub2 Hd
     go_wp2
     go_roundw
     case rel =>
       have e3 : B2 (pred c.slots j) = B' (pred c.slots j) := by
         by_cases e : (pred c.slots j).1 = []
         · rw [HS2.out.nil e]
           rcases none_or (B' (pred c.slots j)) with q | ⟨b', q⟩
           · exact q.symm
           · exact absurd e (HS.out.pure.live_ne ((HS.out.dom _).1 (by rw [q]; simp)))
         · exact Hsub2.out _ (HS2.out.head e)
       refine ⟨pred c.slots j, _, B2, free2, by rw [e3], HS2.out.mono (fun k hk => grow_mono hM.size k hk), ?_, fun x hx => ?_, hM.trans (hM2.mono (fun k _ hk => hk))⟩
       · show _ = _
         rw [← Hil.out, leftOf_step c.slots H j s1 jok hj, List.append_assoc]
       · have e4 := Hsub2.out x hx
         rw [e4]
         exact Hsub.out x (by rw [← e4]; exact hx)
     case measure =>
       have e1 : keyLen B (.pointer (some ⟨b, 0, none⟩)) = j.1.length + 1 := by
         have := keyLen_some Hj.out (k := j) (by rw [hBj]; simp)
         rw [hBj] at this
         exact this
       rw [e1]
       rcases none_or (B' (pred c.slots j)) with q | ⟨b', q⟩
       · have e2 : keyLen B (blkV (B' (pred c.slots j))) = 0 := by
           rw [q]
           have := keyLen_none (B := B) (k := ([], 0)) (by
             rcases none_or (B ([], 0)) with q | ⟨b', q⟩
             · exact q
             · have := (h.pure.live_ne ((h.dom ([], 0)).1 (by rw [q]; simp)))
               exact absurd rfl this)
           have e5 : B ([], 0) = none := by
             rcases none_or (B ([], 0)) with q | ⟨b', q⟩
             · exact q
             · exact absurd rfl (h.pure.live_ne ((h.dom ([], 0)).1 (by rw [q]; simp)))
           rw [e5] at this
           exact this
         rw [e2]; omega
       · have e3 : B (pred c.slots j) = some b' := by rw [← Hsub.out _ (by rw [q]; simp)]; exact q
         rw [q, ← e3, keyLen_some Hj.out (by rw [e3]; simp)]
         have := (pred_len c.slots j s1 hj).2
         omega
theorem live_evict {s v : Nat} {H : List Key} {il : List (List Nat)} {p : List Nat} (h : Pure s v H (p :: il)) (k : Key) : live s H il k ↔ live s H (p :: il) k ∧ k ≠ (p, 0) := by
 unfold live
 constructor
 · rintro (h1 | ⟨h1, h2⟩)
   · exact ⟨.inl h1, fun e => h.out p (by simp) (by rw [← e]; exact h1)⟩
   · refine ⟨.inr ⟨h1, by simp [h2]⟩, fun e => ?_⟩
     have := (List.nodup_cons.1 h.nodup).1
     rw [e] at h2
     exact this h2
 · rintro ⟨h1 | ⟨h1, h2⟩, h3⟩
   · exact .inl h1
   · rcases List.mem_cons.1 h2 with h2 | h2
     · exact absurd (Prod.ext h2 h1) h3
     · exact .inr ⟨h1, h2⟩
theorem Pure.first_back {s v : Nat} {H : List Key} {il : List (List Nat)} {p : List Nat} (h : Pure s v H (p :: il)) (hs : 1 ≤ s) {i : Key} (hi : live s H (p :: il) i) : pred s i ≠ (p, 0) := fun e => by
 have hpn := (h.whole p (by simp)).1
 have hpm := (h.whole p (by simp)).2.1
 have hin := h.live_ne hi
 have hpr : p <+: i.1 := by
   have : (pred s i).1 = p := by rw [e]
   rw [← this]; exact List.take_prefix _ _
 have hlt : p.length < i.1.length := by
   have := (pred_len s i hs hin).2
   rw [e] at this
   exact this
 rcases hi with ⟨x, hx, ho⟩ | ⟨h1, h2⟩
 · exact h.out p (by simp) ⟨x, hx, on_trans s x i (p, 0) ho ⟨hpn, .inr ⟨rfl, hpm, hpr⟩⟩⟩
 · rcases List.mem_cons.1 h2 with h2 | h2
   · rw [h2] at hlt; omega
   · exact (List.pairwise_cons.1 h.order).1 _ h2 hpr
def EvictTo (F ok : Nat → Prop) (w : World) (g : Parts) (c : Cfg) (H : List Key) (il' : List (List Nat)) (B : Key → Option Nat) (w' : World) : Prop :=
 ∃ B' free', StoreI (grow F w) ok w' g c H il' B' free' ∧ Moves F w w' ∧ ∀ x, B' x ≠ none → B' x = B x
set_option maxRecDepth 100000 in
set_option maxHeartbeats 1000000 in
theorem evict_one (F ok : Nat → Prop) (g : Parts) (c : Cfg) (hc : c.ok) (H : List Key) (p : List Nat) (il : List (List Nat)) (B : Key → Option Nat) (free : List Nat) (w : World) (h : StoreI F ok w g c H (p :: il) B free) :
   Calls Try.prog 42 #[.pointer (some ⟨g.X, 0, none⟩), blkV (B (p, 0)), .int .i64 1] w fun e w' => e = .returned (.tuple #[]) ∧ EvictTo F ok w g c H il B w' := by
 obtain ⟨s1, s2⟩ := hc.slots
 obtain ⟨vI, vF, N, Mm, hl⟩ := h.low
 obtain ⟨b, hb⟩ := some_of_ne (hl.ilN p (by simp))
 obtain ⟨hil, hfl⟩ := h.ilen hc
 rw [hb]
 refine (hl.down_free hc (p, 0) b hb (fun i hi => h.pure.first_back s1 ((h.dom i).1 hi)) (by omega) (by omega)).mono ?_
 rintro e w' ⟨rfl, vI', vF', N', hl', hM⟩
 have e1 : (p :: il).filter (fun q => decide ((q, 0) ≠ (p, 0))) = il := by
   have hnd := List.nodup_cons.1 h.pure.nodup
   rw [List.filter_cons_of_neg (by simp)]
   apply List.filter_eq_self.2
   intro q hq
   simp only [decide_eq_true_eq]
   exact fun e => hnd.1 (by injection e with e; rw [← e]; exact hq)
 have e2 : (fun q => if q = [] ++ p then none else B (q, 0)) = fun q => (fun i => if i = (p, 0) then none else B i) (q, 0) := by
   funext q
   simp only [List.nil_append, Prod.mk.injEq, and_true]
 rw [e1] at hl'
 have e3 : (fun q => if q = [] ++ (p, 0).1 then none else B (q, 0)) = fun q => (fun i => if i = (p, 0) then none else B i) (q, 0) := e2
 rw [e3] at hl'
 refine ⟨rfl, fun i => if i = (p, 0) then none else B i, free ++ [b], ⟨⟨vI', vF', N', Mm, hl'⟩, h.pure.evict, fun k => ?_, ?_, h.many⟩, hM, fun x hx => ?_⟩
 · rw [live_evict h.pure k, ← h.dom k]
   by_cases e : k = (p, 0)
   · simp [e]
   · simp [e]
 · have := h.count
   rw [List.length_append, List.length_singleton]
   simp only [List.length_cons] at this
   omega
 · by_cases e : x = (p, 0)
   · simp [e] at hx
   · simp only [if_neg e]
def evN (n : Int) (il : List (List Nat)) : Nat := min n.toNat il.length
set_option maxRecDepth 100000 in
set_option maxHeartbeats 1000000 in
theorem evict_some (F ok : Nat → Prop) (g : Parts) (c : Cfg) (hc : c.ok) (H : List Key) (il : List (List Nat)) (B : Key → Option Nat) (free : List Nat) (m : Nat) (hm : m ≤ il.length) (hm0 : 0 < m) (w : World) (h : StoreI F ok w g c H il B free) :
   Calls Try.prog 27 #[.pointer (some ⟨g.X, 0, none⟩), .int .i64 m] w fun e w' => e = .returned (.int .i64 (m : Nat)) ∧ EvictTo F ok w g c H (il.drop m) B w' := by
 obtain ⟨hil, hfl⟩ := h.ilen hc
 obtain ⟨vI, vF, N, Mm, hl⟩ := h.low
 obtain ⟨arr, o0, o1, o2, o3, o4, o5, o6, o7, o8⟩ := hl.obj
 have cI : w.cell? ⟨g.X, 12, none⟩ = some vI := by rw [cell_blk o0]; exact o7
 have hlen := listlen_any g.X 12 vI (ilB B il) w cI hl.list
 rw [show (ilB B il).length = il.length by unfold ilB; simp] at hlen
 have Hlen := hide hlen
 clear hlen hl o0 o1 o2 o3 o4 o5 o6 o7 o8 cI
 have j1 : (m : Int) ≤ (il.length : Int) := by omega
 have j2 : (0 : Int) < (m : Int) := by omega
 go_enter Try.func27, Try.ntmps27
 go_wp2_with fail
 refine Calls_use Hlen.out ?_
 go_wp2
 go_loopw [13] (fun i wr => ∃ k : Nat, k ≤ m ∧ i = .int .i64 k ∧ Hid (EvictTo F ok w g c H (il.drop k) B wr)) (fun i _ => m - (intOf i).toNat)
 case atStart => exact ⟨0, Nat.zero_le _, rfl, B, free, h.mono (fun k hk => .inl hk), Moves.refl _ _, fun _ _ => rfl⟩
 case round =>
   obtain ⟨k, hk, rfl, HE⟩ := hrel
   by_cases hlt : k < m
   · obtain ⟨B', free', hS, hM, hsub⟩ := HE.out
     obtain ⟨p, il2, hdr⟩ : ∃ p il2, il.drop k = p :: il2 := by
       cases hd : il.drop k with
       | nil => have := congrArg List.length hd; simp at this; omega
       | cons p il2 => exact ⟨p, il2, rfl⟩
     have hdr2 : il.drop (k + 1) = il2 := by
       have := congrArg (List.drop 1) hdr
       simpa [List.drop_drop] using this
     rw [hdr] at hS
     obtain ⟨vI, vF, N, Mm, hl⟩ := hS.low
     obtain ⟨arr, o0, o1, o2, o3, o4, o5, o6, o7, o8⟩ := hl.obj
     have cI : wr.cell? ⟨g.X, 12, none⟩ = some vI := by rw [cell_blk o0]; exact o7
     obtain ⟨b, hb⟩ := some_of_ne (hl.ilN p (by simp))
     have hfirst := listfirst_any g.X 12 b vI (ilB B' il2) wr cI (by have := hl.list; unfold ilB at this; simp only [List.map_cons, hb, Option.getD_some] at this; exact this) (by unfold ilB; have := congrArg List.length hdr; simp at this ⊢; omega)
     have hone := evict_one (grow F w) ok g c hc H p il2 B' free' wr hS
     rw [hb] at hone
     unfold ptrV at hfirst
     unfold blkV at hone
     have Hfirst := hide hfirst
     have Hone := hide hone
     have Hsub := hide hsub
     have Hdr2 := hide hdr2
     have jlt : (k : Int) < (m : Nat) := by omega
     clear hfirst hone hsub hdr2 hdr hl hS HE o0 o1 o2 o3 o4 o5 o6 o7 o8 cI
     go_wp2_with fail
     refine Calls_use Hfirst.out ?_
     go_wp2_with fail
     refine Hone.out.mono ?_
     rintro e w1 ⟨rfl, B2, free2, hS2, hM2, hsub2⟩
     have Hsub2 := hide hsub2
     have HS2 := hide hS2
     clear Hfirst Hone hS2 hsub2
     go_wp2
     go_roundw
     case rel =>
       refine ⟨k + 1, by omega, by go_num, B2, free2, by rw [Hdr2.out]; exact HS2.out.mono (fun k hk => grow_mono hM.size k hk), hM.trans hM2, fun x hx => ?_⟩
       have e4 := Hsub2.out x hx
       rw [e4]
       exact Hsub.out x (by rw [← e4]; exact hx)
     case measure => simp [intOf]; omega
   · have hke : k = m := by omega
     subst hke
     go_wp2
     go_ret
     exact ⟨rfl, HE.out⟩
set_option maxRecDepth 100000 in
set_option maxHeartbeats 1000000 in
theorem evict_most (F ok : Nat → Prop) (g : Parts) (c : Cfg) (hc : c.ok) (H : List Key) (il : List (List Nat)) (B : Key → Option Nat) (free : List Nat) (n : Int) (hn : (il.length : Int) < n) (hl0 : 0 < il.length) (w : World) (h : StoreI F ok w g c H il B free) :
   Calls Try.prog 27 #[.pointer (some ⟨g.X, 0, none⟩), .int .i64 n] w fun e w' => e = .returned (.int .i64 (il.length : Nat)) ∧ EvictTo F ok w g c H (il.drop il.length) B w' := by
 obtain ⟨hil, hfl⟩ := h.ilen hc
 obtain ⟨vI, vF, N, Mm, hl⟩ := h.low
 obtain ⟨arr, o0, o1, o2, o3, o4, o5, o6, o7, o8⟩ := hl.obj
 have cI : w.cell? ⟨g.X, 12, none⟩ = some vI := by rw [cell_blk o0]; exact o7
 have hlen := listlen_any g.X 12 vI (ilB B il) w cI hl.list
 rw [show (ilB B il).length = il.length by unfold ilB; simp] at hlen
 have Hlen := hide hlen
 clear hlen hl o0 o1 o2 o3 o4 o5 o6 o7 o8 cI
 have j1 : ¬ n ≤ (il.length : Int) := by omega
 have j2 : (0 : Int) < (il.length : Int) := by omega
 go_enter Try.func27, Try.ntmps27
 go_wp2_with fail
 refine Calls_use Hlen.out ?_
 go_wp2
 go_loopw [13] (fun i wr => ∃ k : Nat, k ≤ il.length ∧ i = .int .i64 k ∧ Hid (EvictTo F ok w g c H (il.drop k) B wr)) (fun i _ => il.length - (intOf i).toNat)
 case atStart => exact ⟨0, Nat.zero_le _, rfl, B, free, h.mono (fun k hk => .inl hk), Moves.refl _ _, fun _ _ => rfl⟩
 case round =>
   obtain ⟨k, hk, rfl, HE⟩ := hrel
   by_cases hlt : k < il.length
   · obtain ⟨B', free', hS, hM, hsub⟩ := HE.out
     obtain ⟨p, il2, hdr⟩ : ∃ p il2, il.drop k = p :: il2 := by
       cases hd : il.drop k with
       | nil => have := congrArg List.length hd; simp at this; omega
       | cons p il2 => exact ⟨p, il2, rfl⟩
     have hdr2 : il.drop (k + 1) = il2 := by
       have := congrArg (List.drop 1) hdr
       simpa [List.drop_drop] using this
     rw [hdr] at hS
     obtain ⟨vI, vF, N, Mm, hl⟩ := hS.low
     obtain ⟨arr, o0, o1, o2, o3, o4, o5, o6, o7, o8⟩ := hl.obj
     have cI : wr.cell? ⟨g.X, 12, none⟩ = some vI := by rw [cell_blk o0]; exact o7
     obtain ⟨b, hb⟩ := some_of_ne (hl.ilN p (by simp))
     have hfirst := listfirst_any g.X 12 b vI (ilB B' il2) wr cI (by have := hl.list; unfold ilB at this; simp only [List.map_cons, hb, Option.getD_some] at this; exact this) (by unfold ilB; have := congrArg List.length hdr; simp at this ⊢; omega)
     have hone := evict_one (grow F w) ok g c hc H p il2 B' free' wr hS
     rw [hb] at hone
     unfold ptrV at hfirst
     unfold blkV at hone
     have Hfirst := hide hfirst
     have Hone := hide hone
     have Hsub := hide hsub
     have Hdr2 := hide hdr2
     have jlt : (k : Int) < (il.length : Nat) := by omega
     clear hfirst hone hsub hdr2 hdr hl hS HE o0 o1 o2 o3 o4 o5 o6 o7 o8 cI
     go_wp2_with fail
     refine Calls_use Hfirst.out ?_
     go_wp2_with fail
     refine Hone.out.mono ?_
     rintro e w1 ⟨rfl, B2, free2, hS2, hM2, hsub2⟩
     have Hsub2 := hide hsub2
     have HS2 := hide hS2
     clear Hfirst Hone hS2 hsub2
     go_wp2
     go_roundw
     case rel =>
       refine ⟨k + 1, by omega, by go_num, B2, free2, by rw [Hdr2.out]; exact HS2.out.mono (fun k hk => grow_mono hM.size k hk), hM.trans hM2, fun x hx => ?_⟩
       have e4 := Hsub2.out x hx
       rw [e4]
       exact Hsub.out x (by rw [← e4]; exact hx)
     case measure => simp [intOf]; omega
   · have hke : k = il.length := by omega
     subst hke
     go_wp2
     go_ret
     exact ⟨rfl, HE.out⟩
set_option maxRecDepth 100000 in
set_option maxHeartbeats 1000000 in
theorem evict_none (F ok : Nat → Prop) (g : Parts) (c : Cfg) (hc : c.ok) (H : List Key) (il : List (List Nat)) (B : Key → Option Nat) (free : List Nat) (n : Int) (hn : n ≤ 0) (w : World) (h : StoreI F ok w g c H il B free) :
   Calls Try.prog 27 #[.pointer (some ⟨g.X, 0, none⟩), .int .i64 n] w fun e w' => e = .returned (.int .i64 0) ∧ w' = w := by
 obtain ⟨hil, hfl⟩ := h.ilen hc
 obtain ⟨vI, vF, N, Mm, hl⟩ := h.low
 obtain ⟨arr, o0, o1, o2, o3, o4, o5, o6, o7, o8⟩ := hl.obj
 have cI : w.cell? ⟨g.X, 12, none⟩ = some vI := by rw [cell_blk o0]; exact o7
 have hlen := listlen_any g.X 12 vI (ilB B il) w cI hl.list
 rw [show (ilB B il).length = il.length by unfold ilB; simp] at hlen
 have Hlen := hide hlen
 have j1 : n ≤ (il.length : Int) := by omega
 have j2 : ¬ (0 : Int) < n := by omega
 clear hlen hl o0 o1 o2 o3 o4 o5 o6 o7 o8 cI
 go_enter Try.func27, Try.ntmps27
 go_wp2_with fail
 refine Calls_use Hlen.out ?_
 go_wp2
 go_loopw [13] (fun i wr => i = .int .i64 0 ∧ wr = w) (fun _ _ => 0)
 case atStart => exact ⟨rfl, rfl⟩
 case round =>
   obtain ⟨rfl, rfl⟩ := hrel
   go_wp2
   go_ret
   exact ⟨rfl, rfl⟩
set_option maxRecDepth 100000 in
set_option maxHeartbeats 1000000 in
theorem evict_empty (F ok : Nat → Prop) (g : Parts) (c : Cfg) (hc : c.ok) (H : List Key) (il : List (List Nat)) (B : Key → Option Nat) (free : List Nat) (n : Int) (hn : 0 < n) (hl0 : il.length = 0) (w : World) (h : StoreI F ok w g c H il B free) :
   Calls Try.prog 27 #[.pointer (some ⟨g.X, 0, none⟩), .int .i64 n] w fun e w' => e = .returned (.int .i64 0) ∧ w' = w := by
 obtain ⟨hil, hfl⟩ := h.ilen hc
 obtain ⟨vI, vF, N, Mm, hl⟩ := h.low
 obtain ⟨arr, o0, o1, o2, o3, o4, o5, o6, o7, o8⟩ := hl.obj
 have cI : w.cell? ⟨g.X, 12, none⟩ = some vI := by rw [cell_blk o0]; exact o7
 have hlen := listlen_any g.X 12 vI (ilB B il) w cI hl.list
 rw [show (ilB B il).length = il.length by unfold ilB; simp] at hlen
 have Hlen := hide hlen
 rw [hl0] at Hlen
 have j1 : ¬ n ≤ (0 : Int) := by omega
 have j2 : ¬ n < (0 : Int) := by omega
 clear hlen hl o0 o1 o2 o3 o4 o5 o6 o7 o8 cI
 go_enter Try.func27, Try.ntmps27
 go_wp2_with fail
 refine Calls_use Hlen.out ?_
 go_wp2
 go_loopw [13] (fun i wr => i = .int .i64 0 ∧ wr = w) (fun _ _ => 0)
 case atStart => exact ⟨rfl, rfl⟩
 case round =>
   obtain ⟨rfl, rfl⟩ := hrel
   go_wp2
   go_ret
   exact ⟨rfl, rfl⟩
theorem evict_any (F ok : Nat → Prop) (g : Parts) (c : Cfg) (hc : c.ok) (H : List Key) (il : List (List Nat)) (B : Key → Option Nat) (free : List Nat) (n : Int) (w : World) (h : StoreI F ok w g c H il B free) :
   Calls Try.prog 27 #[.pointer (some ⟨g.X, 0, none⟩), .int .i64 n] w fun e w' => e = .returned (.int .i64 (evN n il)) ∧ EvictTo F ok w g c H (il.drop (evN n il)) B w' := by
 have stay : ∀ (e : Ending) (w' : World), e = .returned (.int .i64 0) ∧ w' = w → evN n il = 0 → e = .returned (.int .i64 (evN n il)) ∧ EvictTo F ok w g c H (il.drop (evN n il)) B w' := by
   rintro e w' ⟨rfl, rfl⟩ e1
   rw [e1]
   exact ⟨rfl, B, free, h.mono (fun k hk => .inl hk), Moves.refl _ _, fun _ _ => rfl⟩
 by_cases h0 : n ≤ 0
 · exact (evict_none F ok g c hc H il B free n h0 w h).mono (fun e w' he => stay e w' he (by unfold evN; omega))
 · by_cases hl0 : il.length = 0
   · exact (evict_empty F ok g c hc H il B free n (by omega) hl0 w h).mono (fun e w' he => stay e w' he (by unfold evN; omega))
   · by_cases h1 : (il.length : Int) < n
     · have e1 : evN n il = il.length := by unfold evN; omega
       rw [e1]
       exact evict_most F ok g c hc H il B free n h1 (by omega) w h
     · obtain ⟨m, rfl⟩ : ∃ m : Nat, n = m := ⟨n.toNat, by omega⟩
       have e1 : evN m il = m := by unfold evN; omega
       rw [e1]
       exact evict_some F ok g c hc H il B free m (by omega) (by omega) w h
theorem use_any (F ok : Nat → Prop) (g : Parts) (c : Cfg) (hc : c.ok) (H : List Key) (il : List (List Nat)) (B : Key → Option Nat) (free : List Nat) (k : Key) (w : World) (h : StoreI F ok w g c H il B free) (hk : k = ([], 0) ∨ live c.slots H il k) (hm : H.length ≤ 99) :
   Calls Try.prog 40 #[.pointer (some ⟨g.X, 0, none⟩), blkV (B k)] w fun e w' => e = .returned (.tuple #[]) ∧ StoreI (grow F w) ok w' g c (k :: H) (notUp k.1 il) B free ∧ Moves F w w' := by
 obtain ⟨s1, s2⟩ := hc.slots
 obtain ⟨hil, hfl⟩ := h.ilen hc
 obtain ⟨vI, vF, N, Mm, hl⟩ := h.low
 have hmany := h.many
 refine (use_low F ok g c hc B _ _ il free vI vF N Mm k w hl (by omega) (fun x => by have := users_le c.slots H x; omega) (fun e => h.nil e) (fun e => ?_)).mono ?_
 · rcases hk with rfl | hk
   · exact absurd rfl e
   · exact (h.dom k).2 hk
 · rintro e w' ⟨rfl, vI', hl', hM⟩
   have e1 : (fun x => users c.slots H x + if on c.slots k x then 1 else 0) = users c.slots (k :: H) := by
     funext x
     rw [users_cons]
   have e2 : il.filter (fun p => decide (¬ on c.slots k (p, 0))) = notUp k.1 il := by
     unfold notUp
     apply List.filter_congr
     intro p hp
     obtain ⟨q1, q2, _⟩ := h.pure.whole p hp
     rw [Bool.eq_iff_iff]
     simp only [decide_eq_true_eq]
     constructor
     · intro hn hpf
       exact hn ⟨q1, .inr ⟨rfl, q2, hpf⟩⟩
     · rintro hn ⟨_, e | ⟨_, _, e⟩⟩
       · exact hn (by rw [← e]; exact List.prefix_refl _)
       · exact hn e
   rw [e1, e2] at hl'
   refine ⟨rfl, ⟨⟨vI', vF, N, Mm, hl'⟩, h.pure.use hk, fun j => (h.dom j).trans (live_use h.pure hk j).symm, ?_, by simp; omega⟩, hM⟩
   have := nUsed_use s1 h.pure hk
   have := h.count
   omega
def idleN (s : Nat) (U : Key → Nat) (k : Key) : Nat := (chain s k).countP (fun x => decide (U x = 0))
theorem chain_len (s : Nat) (k : Key) : (chain s k).length = (k.1.length + s - 1) / s := by unfold chain; simp
theorem idleN_step (s : Nat) (U : Key → Nat) (k : Key) (hs : 1 ≤ s) (hk : keyOk s k) (hne : k.1 ≠ []) : idleN s U k = idleN s U (pred s k) + if U k = 0 then 1 else 0 := by
 unfold idleN
 rw [chain_step s k hs hk hne, List.countP_append, List.countP_singleton]
 by_cases e : U k = 0 <;> simp [e]
theorem idleN_nil (s : Nat) (U : Key → Nat) (k : Key) (hs : 1 ≤ s) (e : k.1 = []) : idleN s U k = 0 := by unfold idleN; rw [chain_nil s k hs e]; rfl
theorem idleN_le (s : Nat) (U : Key → Nat) (k : Key) (hs : 1 ≤ s) : idleN s U k ≤ k.1.length := by
 have h1 := List.countP_le_length (p := fun x => decide (U x = 0)) (l := chain s k)
 rw [chain_len] at h1
 have h2 : (k.1.length + s - 1) / s ≤ k.1.length := by
   by_cases e : k.1.length = 0
   · rw [e, Nat.div_eq_of_lt (by omega)]
     omega
   · refine Nat.div_le_of_le_mul ?_
     have : s + k.1.length ≤ s * k.1.length + 1 := by
       obtain ⟨a, rfl⟩ : ∃ a, s = a + 1 := ⟨s - 1, by omega⟩
       obtain ⟨b, hb⟩ : ∃ b, k.1.length = b + 1 := ⟨k.1.length - 1, by omega⟩
       rw [hb, Nat.add_mul, Nat.mul_add]
       omega
     omega
 unfold idleN
 omega
set_option maxRecDepth 100000 in
set_option maxHeartbeats 1000000 in
theorem idle_any (ok : Nat → Prop) (c : Cfg) (hc : c.ok) (B : Key → Option Nat) (U : Key → Nat) (k : Key) (w : World) (h : SeqAt ok w c B U k) (hU : ∀ x, U x ≤ 1000) :
   Calls Try.prog 51 #[blkV (B k)] w fun e w' => e = .returned (.int .i64 (idleN c.slots U k)) ∧ w' = w := by
 obtain ⟨s1, s2⟩ := hc.slots
 have hlen := h.len
 have hle := idleN_le c.slots U k s1
 go_enter Try.func51, Try.ntmps51
 go_wp2
 go_loop [0, 3] (fun v n => ∃ (j : Key) (m : Nat), v = blkV (B j) ∧ Hid (j.1 = [] → B j = none) ∧ Hid (j.1 ≠ [] → B j ≠ none) ∧ n = .int .i64 m ∧ Hid (m + idleN c.slots U j = idleN c.slots U k) ∧ m ≤ idleN c.slots U k) (fun v _ => keyLen B v)
 case atStart => exact ⟨k, 0, rfl, h.nil, h.here, rfl, Nat.zero_add _, Nat.zero_le _⟩
 case round =>
   obtain ⟨j, m, rfl, Hj1, Hj2, rfl, Hm, hm⟩ := hrel
   rcases none_or (B j) with hB | ⟨b, hB⟩
   · have ev : blkV (B j) = .pointer none := by rw [hB]; rfl
     rw [ev]
     have hj : j.1 = [] := by
       by_cases e : j.1 = []
       · exact e
       · exact absurd hB (Hj2.out e)
     clear ev
     go_wp2
     go_ret
     have e1 := Hm.out
     rw [idleN_nil c.slots U j s1 hj] at e1
     exact ⟨ret_int (by omega), rfl⟩
   · have hBn : B j ≠ none := by rw [hB]; simp
     obtain ⟨jn, jok, jlen, _⟩ := h.blks.ne j hBn
     obtain ⟨x, hx, _⟩ := h.blks.at' j b hB
     have c1 : w.cell? ⟨b, 1, none⟩ = some (blkV (B (pred c.slots j))) := by rw [cell_blk hx]; rfl
     have c2 : w.cell? ⟨b, 2, none⟩ = some (.int .i64 (U j)) := by rw [cell_blk hx]; rfl
     have hstep := idleN_step c.slots U j s1 jok jn
     have Hstep := hide hstep
     have hUj := hU j
     have ev : blkV (B j) = .pointer (some ⟨b, 0, none⟩) := by rw [hB]; rfl
     rw [ev]
     have hpn : (pred c.slots j).1 = [] → B (pred c.slots j) = none := fun e => by
       rcases none_or (B (pred c.slots j)) with hh | ⟨b', hh⟩
       · exact hh
       · exact absurd e (h.blks.ne _ (by rw [hh]; simp)).1
     have Hpn := hide hpn
     have Hpa := hide (h.blks.ahead j hBn)
     have hmeas : keyLen B (blkV (B (pred c.slots j))) < keyLen B (.pointer (some ⟨b, 0, none⟩)) := by
       have e1 : keyLen B (.pointer (some ⟨b, 0, none⟩)) = j.1.length + 1 := by
         have := keyLen_some h.blks.inj (k := j) hBn
         rw [hB] at this
         exact this
       rw [e1]
       rcases none_or (B (pred c.slots j)) with hh | ⟨b', hh⟩
       · rw [keyLen_none hh]; omega
       · rw [keyLen_some h.blks.inj (by rw [hh]; simp)]
         have := (pred_len c.slots j s1 jn).2
         omega
     have Hmeas := hide hmeas
     clear hx hstep ev hpn hmeas
     by_cases hz : U j = 0
     · rw [hz] at c2
       have hlt : m + 1 ≤ idleN c.slots U k := by
         have a1 := Hm.out
         have a2 := Hstep.out
         rw [if_pos hz] at a2
         omega
       go_wp2
       go_round
       case rel =>
         refine ⟨pred c.slots j, m + 1, rfl, Hpn.out, Hpa.out, by go_num, ?_, hlt⟩
         show _ = _
         have a1 := Hm.out
         have a2 := Hstep.out
         rw [if_pos hz] at a2
         omega
       case measure => exact Hmeas.out
     · have hz2 : ((U j : Int) == 0) = false := by rw [beq_eq_false_iff_ne]; omega
       have hz3 : decide (U j = 0) = false := by simpa using hz
       go_wp2
       go_round
       case rel =>
         refine ⟨pred c.slots j, m, rfl, Hpn.out, Hpa.out, rfl, ?_, hm⟩
         show _ = _
         have a1 := Hm.out
         have a2 := Hstep.out
         rw [if_neg hz] at a2
         omega
       case measure => exact Hmeas.out
def nbOf (s n : Nat) : Nat := (n + s - 1) / s
theorem nbOf_lt {s n k : Nat} (hs : 1 ≤ s) : k < nbOf s n ↔ k * s < n := by
 unfold nbOf
 rw [Nat.lt_div_iff_mul_lt (by omega)]
 omega
theorem nbOf_le {s n : Nat} (hs : 1 ≤ s) : nbOf s n ≤ n := by
 refine Nat.le_of_not_lt (fun h => ?_)
 have h1 := (nbOf_lt (n := n) (k := n) hs).1 h
 have : n * 1 ≤ n * s := Nat.mul_le_mul_left _ hs
 omega
section
variable {F ok : Nat → Prop} {w w' : World} {g : Parts} {c : Cfg} {B : Key → Option Nat} {U : Key → Nat} {V : List Nat → Option Nat} {il : List (List Nat)} {free : List Nat} {vI vF : Value} {N : List Nat → Option (Nat × Nat)} {Mm : List Nat → Option Nat}
set_option maxRecDepth 100000 in
set_option maxHeartbeats 1000000 in
theorem LowX.blocksof_any (h : LowX F ok w g c B U V il free vI vF N Mm) (hc : c.ok) (n : Nat) (hn : n ≤ 1000) :
   Calls Try.prog 66 #[.pointer (some ⟨g.X, 0, none⟩), .int .i64 n] w fun e w' => e = .returned (.int .i64 (nbOf c.slots n)) ∧ ∃ q, w' = w.drewN q := by
 obtain ⟨arr, o0, o1, o2, o3, o4, o5, o6, o7, o8⟩ := h.obj
 obtain ⟨s1, s2⟩ := hc.slots
 have c1 : w.cell? ⟨g.X, 1, none⟩ = some (.int .i64 c.slots) := by rw [cell_blk o0]; exact o2
 have e1 : ((n : Int) + c.slots - 1).tdiv c.slots = (nbOf c.slots n : Int) := by
   unfold nbOf
   rw [show (n : Int) + c.slots - 1 = ((n + c.slots - 1 : Nat) : Int) by omega]
   rfl
 have hw1 : IntKind.i64.wrap ((n : Int) + c.slots) = (n : Int) + c.slots := wrap_in (by omega) (by omega)
 have hw2 : IntKind.i64.wrap ((n : Int) + c.slots - 1) = (n : Int) + c.slots - 1 := wrap_in (by omega) (by omega)
 have hle := nbOf_le (s := c.slots) (n := n) s1
 have hne : ¬ ((c.slots : Int) = 0) := by omega
 have He1 := hide e1
 clear o0 o1 o2 o3 o4 o5 o6 o7 o8 h e1
 go_enter Try.func66, Try.ntmps66
 go_wp2
 go_quiet (fail)
 go_wp2
 go_ret
 refine ⟨ret_int ?_, _, rfl⟩
 have := He1.out
 rw [Int.tdiv_eq_ediv_of_nonneg (by omega)] at this
 exact this
def ownTail (U : Key → Nat) (k : Key) : Nat := if k.1 ≠ [] ∧ k.2 ≠ 0 ∧ U k = 1 then 1 else 0
set_option maxRecDepth 100000 in
set_option maxHeartbeats 2000000 in
theorem LowX.anew_any (h : LowX F ok w g c B U V il free vI vF N Mm) (hc : c.ok) (k f : Key) (n : Nat) (hk : SeqAt ok w c B U k) (hf : SeqAt ok w c B U f) (hle : f.1.length ≤ n) (hn : n ≤ 1000) (hU : ∀ x, U x ≤ 1000) :
   Calls Try.prog 50 #[.pointer (some ⟨g.X, 0, none⟩), blkV (B k), blkV (B f), .int .i64 n] w fun e w' => e = .returned (.int .i64 ((nbOf c.slots (n - f.1.length) : Int) - ownTail U k)) ∧ Below w.heap.size w w' := by
 obtain ⟨s1, s2⟩ := hc.slots
 have hall := seqall_any ok c hc B U f w hf
 have Hall := hide hall
 obtain ⟨vf, hvf⟩ : ∃ vf, vf = blkV (B f) := ⟨_, rfl⟩
 rw [← hvf] at Hall ⊢
 have hnb := nbOf_le (s := c.slots) (n := n - f.1.length) s1
 clear hall hvf hf
 by_cases hk0 : k.1 = []
 · have ev : blkV (B k) = .pointer none := by rw [hk.nil hk0]; rfl
   have ho : ownTail U k = 0 := by unfold ownTail; rw [if_neg (fun q => q.1 hk0)]
   rw [ev, ho]
   go_enter Try.func50, Try.ntmps50
   go_wp2_with fail
   refine Hall.out.mono ?_
   rintro e W ⟨r, rfl, ⟨S, hr1, hr2⟩, hb⟩
   obtain ⟨ar, cr, er⟩ := owns_form hr1
   subst er
   have hbo := (h.below hb).blocksof_any hc (n - f.1.length) (by omega)
   rw [show ((n - f.1.length : Nat) : Int) = (n : Int) - f.1.length by omega] at hbo
   have Hbo := hide hbo
   clear hr1 hr2 Hall hbo
   go_wp2_with fail
   refine Hbo.out.mono ?_
   rintro e W2 ⟨rfl, q, hq⟩
   have hb2 : Below w.heap.size w W2 := by rw [hq]; exact ⟨hb.os, hb.tape, hb.output, hb.size, hb.block⟩
   clear hq Hbo
   go_wp2
   go_ret
   exact ⟨rfl, hb2⟩
 · obtain ⟨b, hB⟩ := some_of_ne (hk.here hk0)
   have ev : blkV (B k) = .pointer (some ⟨b, 0, none⟩) := by rw [hB]; rfl
   rw [ev]
   have hUk := hU k
   go_enter Try.func50, Try.ntmps50
   go_wp2_with fail
   refine Hall.out.mono ?_
   rintro e W ⟨r, rfl, ⟨S, hr1, hr2⟩, hb⟩
   obtain ⟨ar, cr, er⟩ := owns_form hr1
   subst er
   have hbo := (h.below hb).blocksof_any hc (n - f.1.length) (by omega)
   rw [show ((n - f.1.length : Nat) : Int) = (n : Int) - f.1.length by omega] at hbo
   have Hbo := hide hbo
   clear hr1 hr2 Hall hbo
   go_wp2_with fail
   refine Hbo.out.mono ?_
   rintro e W2 ⟨rfl, q, hq⟩
   have hb2 : Below w.heap.size w W2 := by rw [hq]; exact ⟨hb.os, hb.tape, hb.output, hb.size, hb.block⟩
   have hwh := (h.below hb2).iswhole_any hc k b hB
   obtain ⟨x, hx, _⟩ := (h.below hb2).blk hB
   have c2 : W2.cell? ⟨b, 2, none⟩ = some (.int .i64 (U k)) := by rw [cell_blk hx]; rfl
   have Hwh := hide hwh
   clear hq Hbo hwh hx hb
   go_wp2_with fail
   refine Hwh.out.mono ?_
   rintro e W3 ⟨rfl, q3, hq3⟩
   have hb3 : Below w.heap.size w W3 := by rw [hq3]; exact ⟨hb2.os, hb2.tape, hb2.output, hb2.size, hb2.block⟩
   have c3 : W3.cell? ⟨b, 2, none⟩ = some (.int .i64 (U k)) := by rw [hq3]; exact c2
   clear hq3 Hwh c2 hb2
   by_cases hk2 : k.2 = 0
   · have ho : ownTail U k = 0 := by unfold ownTail; rw [if_neg (fun q => q.2.1 hk2)]
     have Ho := hide ho
     clear ho
     have hd : decide (k.2 = 0) = true := by simpa using hk2
     rw [hd]
     clear hd
     go_wp2
     go_ret
     exact ⟨ret_int (by rw [Ho.out]; omega), hb3⟩
   · have hd : decide (k.2 = 0) = false := by simpa using hk2
     rw [hd]
     by_cases hu : U k = 1
     · have ho : ownTail U k = 1 := by unfold ownTail; rw [if_pos ⟨hk0, hk2, hu⟩]
       have Ho := hide ho
       clear ho hd
       rw [hu] at c3
       go_wp2
       go_ret
       exact ⟨ret_int (by rw [Ho.out]; omega), hb3⟩
     · have ho : ownTail U k = 0 := by unfold ownTail; rw [if_neg (fun q => hu q.2.2)]
       have Ho := hide ho
       clear ho hd
       have hz2 : ((U k : Int) == 1) = false := by rw [beq_eq_false_iff_ne]; omega
       have hz3 : decide (U k = 1) = false := by simpa using hu
       go_wp2
       go_ret
       exact ⟨ret_int (by rw [Ho.out]; omega), hb3⟩
end
end Go.Proofs.Ytlmflighkkgikaa
namespace Go.Proofs.Ytlmflighkkgikaa
open Go.RowKit
theorem CellI.mems {ok : Nat → Prop} {w : World} {v : Value} {L m : Nat} {kf vf : Nat → Nat → Int} (h : CellI ok w v L m kf vf) : Mems w v L m kf vf := by
 obtain ⟨b, cap, arr, fr, e, h1, h2, h3, h4⟩ := h
 refine ⟨_, cap, e, h1, h2, fun _ => ⟨b, 0, rfl, lt_blk h3, fun t ht => ?_⟩⟩
 obtain ⟨vk, vv, q1, q2, q3, q4, _, _⟩ := h4 t ht
 exact ⟨vk, vv, by rw [cell_blk h3]; simpa using q1, by rw [cell_blk h3]; simpa using q2, q3, q4⟩
theorem CellsI.below {base : Nat} {ok : Nat → Prop} {w w' : World} {v : Value} {c : Cfg} {T : List Nat} {n : Nat} (h : CellsI base ok w v c T n) (hb : Below w.heap.size w w') : CellsI base ok w' v c T n := by
 obtain ⟨xs, h1, h2⟩ := h
 exact ⟨xs, owns_below' h1 hb, fun t ht => (h2 t ht).keep (KeepT.of_below hb) (KeepT.of_below hb)⟩
theorem CellsI.past {base : Nat} {ok : Nat → Prop} {w : World} {a : Option Addr} {n cap p : Nat} {c : Cfg} {T : List Nat} (h : CellsI base ok w (.slice a n cap) c T n) (hp : p ≤ n) : Past w (.slice a p cap) p c.layers c.width (memOf c (tkN T) p).1 (memOf c (tkN T) p).2 := by
 obtain ⟨xs, h1, h2⟩ := h
 refine ⟨xs, ?_, fun t ht => ?_⟩
 · obtain ⟨a', c', e, q1, q2, q3⟩ := Row.of_owns h1
   injection e with e1 _ e3
   subst e1 e3
   refine ⟨a, cap, rfl, by omega, q2, fun h0 => ?_⟩
   obtain ⟨b, off, e, hb, hc⟩ := q3 (by omega)
   exact ⟨b, off, e, hb, fun j hj => hc j (by omega)⟩
 · obtain ⟨m1, m2⟩ := memOf_at c (tkN T) p t ht
   rw [m1, m2]
   exact (h2 t (by omega)).mems
theorem owns_keepT {w w' : World} {base : Nat} {e : TypeId} {size : Nat} {v : Value} {n : Nat} {xs : List Value} (h : w.ownsRow base e size v n xs) (hk : KeepT e w w') : w'.ownsRow base e size v n xs := by
 obtain ⟨h1, h2 | ⟨g, cap, cur, e', hg, hh, rest⟩⟩ := h
 · exact ⟨h1, .inl h2⟩
 · exact ⟨h1, .inr ⟨g, cap, cur, e', hg, hk _ _ _ hh, rest⟩⟩
theorem CellsI.keepT {base : Nat} {ok : Nat → Prop} {w w' : World} {v : Value} {c : Cfg} {T : List Nat} {n : Nat} (h : CellsI base ok w v c T n) (h1 : KeepT 105 w w') (h2 : KeepT 113 w w') (h3 : KeepT 3 w w') : CellsI base ok w' v c T n := by
 obtain ⟨xs, a, b⟩ := h
 exact ⟨xs, owns_keepT a h1, fun t ht => (b t ht).keep h2 h3⟩
theorem CellsI.form {base : Nat} {ok : Nat → Prop} {w : World} {v : Value} {c : Cfg} {T : List Nat} {n : Nat} (h : CellsI base ok w v c T n) : ∃ a cap, v = .slice a n cap := by
 obtain ⟨xs, a, b⟩ := h
 exact owns_form a
theorem CellsI.congr {base : Nat} {ok : Nat → Prop} {w : World} {v : Value} {c : Cfg} {T T' : List Nat} {n : Nat} (h : CellsI base ok w v c T n) (e : ∀ j, j < n → tkN T j = tkN T' j) : CellsI base ok w v c T' n := by
 obtain ⟨xs, a, b⟩ := h
 refine ⟨xs, a, fun t ht => ?_⟩
 obtain ⟨e1, e2⟩ := kOf_congr c t (tk := tkN T) (tk' := tkN T') (fun j hj => e j (by omega))
 rw [← e1, ← e2]; exact b t ht
theorem CellsI.okmono {base : Nat} {ok ok' : Nat → Prop} {w : World} {v : Value} {c : Cfg} {T : List Nat} {n : Nat} (h : CellsI base ok w v c T n) (hm : ∀ b, ok b → ok' b) : CellsI base ok' w v c T n := by
 obtain ⟨xs, a, b⟩ := h
 exact ⟨xs, a, fun t ht => (b t ht).mono hm⟩
theorem CellsI.cell {base : Nat} {ok : Nat → Prop} {w : World} {a : Option Addr} {cap : Nat} {c : Cfg} {T : List Nat} {n : Nat} (h : CellsI base ok w (.slice a n cap) c T n) (j : Nat) (hj : j < n) : ∃ g cv, a = some ⟨g, 0, none⟩ ∧ g < w.heap.size ∧ w.cell? ⟨g, j, none⟩ = some cv ∧ CellI ok w cv c.layers c.width (kOf c (tkN T) j) (vOf c (tkN T) j) := by
 obtain ⟨xs, h1, h2⟩ := h
 obtain ⟨_, ⟨_, q⟩ | ⟨g, cap', cur, q1, _, hg, _⟩⟩ := id h1
 · omega
 · injection q1 with q1 _ _
   subst q1
   exact ⟨g, xs j, rfl, lt_blk hg, owns_at h1 rfl (by simp [hj]), h2 j hj⟩
theorem CellsI.cap {base : Nat} {ok : Nat → Prop} {w : World} {a : Option Addr} {cap : Nat} {c : Cfg} {T : List Nat} {n : Nat} (h : CellsI base ok w (.slice a n cap) c T n) : n ≤ cap ∧ cap ≤ maxLen := by
 obtain ⟨xs, ⟨_, ⟨q1, q2⟩ | ⟨g, cap', cur, q1, _, hg, q3, q4, _⟩⟩, _⟩ := h
 · injection q1 with _ _ q1; subst q1; exact ⟨by omega, by simp [maxLen]⟩
 · injection q1 with _ _ q1; subst q1; exact ⟨q3, q4⟩
theorem run_min (P : Program) (w : World) (ts : Array TypeId) (ty : TypeId) (a b e : Int) (h : (a ≤ b ∧ e = a) ∨ (b < a ∧ e = b)) : (Builtin.min_ ts ty #[.int .i64 a, .int .i64 b]).run P w = .ok (.int .i64 e) w := by
 rcases h with ⟨h, rfl⟩ | ⟨h, rfl⟩
 · simp [Builtin.min_, Builtin.min2, go_sem, show ¬ b < e by omega]
 · simp [Builtin.min_, Builtin.min2, go_sem, h]
theorem SlotsI.push {base : Nat} {ok : Nat → Prop} {w : World} {v cv : Value} {c : Cfg} {T : List Nat} {f j : Nat} {S : Nat → Value} (hown : w.ownsRow base 118 2 v (j + 1) ((List.range (j * 2)).map S ++ [.int .i64 (tkI T (f + j)), cv]))
   (h1 : ∀ t, t < j → S (t * 2) = .int .i64 (tkI T (f + t)) ∧ CellI ok w (S (t * 2 + 1)) c.layers c.width (kOf c (tkN T) (f + t)) (vOf c (tkN T) (f + t)))
   (hc : CellI ok w cv c.layers c.width (kOf c (tkN T) (f + j)) (vOf c (tkN T) (f + j))) : SlotsI base ok w v c T f (j + 1) := by
 refine SlotsI.append (m := j) (k := 1) (S := S) (S' := fun i => if i = 0 then .int .i64 (tkI T (f + j)) else cv) ?_ h1 (fun t ht => ?_)
 · exact hown
 · obtain rfl : t = 0 := by omega
   exact ⟨rfl, hc⟩
theorem SlotsI.base {base base' : Nat} {ok : Nat → Prop} {w : World} {v : Value} {c : Cfg} {T : List Nat} {f k : Nat} (h : SlotsI base ok w v c T f k) (hb : base' ≤ base) : SlotsI base' ok w v c T f k := by
 obtain ⟨S, h1, h2⟩ := h
 exact ⟨S, owns_base h1 hb, h2⟩
section
variable {F ok : Nat → Prop} {w w' : World} {g : Parts} {c : Cfg} {B : Key → Option Nat} {U : Key → Nat} {V : List Nat → Option Nat} {il : List (List Nat)} {free : List Nat} {vI vF : Value} {N : List Nat → Option (Nat × Nat)} {Mm : List Nat → Option Nat}
theorem LowX.took {b : Nat} (h : LowX F ok w g c B U V il (free ++ [b]) vI vF N Mm) (v' : Value) (hP : PoolI w' g.PL v' free) (hO : Only (fun j => j = g.PL ∨ vF.ownBlock = some j) w w') (hown : v'.ownBlock = vF.ownBlock) :
   LowX F ok w' g c B U V il free vI v' N Mm ∧ Moves F w w' ∧ w'.heap[b]? = some (.cells #[.slice none 0 0, .pointer none, .int .i64 0] 87 (0, 0)) := by
 obtain ⟨arr, o0, o⟩ := h.obj
 have tys : ∀ j cur e fr, (j = g.PL ∨ vF.ownBlock = some j) → w.heap[j]? = some (.cells cur e fr) → e = 115 ∨ e = 61 := by
   rintro j cur e fr (rfl | hj) hh
   · rw [h.pool.obj] at hh; injection hh with hh; injection hh with _ hh _; exact .inl hh.symm
   · obtain ⟨cur', hc⟩ := h.pool.row.kind hj
     rw [hc] at hh; injection hh with hh; injection hh with _ hh _; exact .inr hh.symm
 have far : ∀ {j : Nat} {a : Array Value} {e : TypeId} {fr : Nat × Nat}, w.heap[j]? = some (.cells a e fr) → e ≠ 115 → e ≠ 61 → w'.heap[j]? = w.heap[j]? := fun {j a e fr} hj h1 h2 => hO.block _ (lt_blk hj) (fun hf => (tys j a e fr hf hj).elim h1 h2)
 have kk : ∀ e, e ≠ 115 → e ≠ 61 → KeepT e w w' := fun e h1 h2 => hO.keep (fun j cur fr hf hh => (tys j cur e fr hf hh).elim h1 h2)
 have mfar : ∀ {mb n : Nat} {M : Int → Option Value}, MapV Try.prog 3 w mb n M → w'.heap[mb]? = w.heap[mb]? := fun hv => hO.block _ hv.lt (fun hf => by
   rcases hf with rfl | hf
   · exact TreeI.mapne h.pool.obj hv rfl
   · obtain ⟨cur, hc⟩ := h.pool.row.kind hf
     exact TreeI.mapne hc hv rfl)
 refine ⟨⟨⟨arr, by rw [far o0 (by decide) (by decide)]; exact o0, o⟩, h.model.keep (kk _ (by decide) (by decide)) (kk _ (by decide) (by decide)) (kk _ (by decide) (by decide)) (kk _ (by decide) (by decide)), hP,
   h.tree.keepT (fun p a hp => ?_) (fun p mb hp hm => mfar (h.tree.kids p mb hp hm)), h.root, h.smap, h.list.keep (fun b' hb' => hO.block _ (own_lt h.list hb') (fun hf => ?_)), h.ilN, h.ilnd, h.blks.keep (fun k b' hk => ?_) (kk _ (by decide) (by decide)) (kk _ (by decide) (by decide)) (kk _ (by decide) (by decide)), fun b' hb' => h.freeB b' (by simp [hb']), fun b' hb' hb'' => h.apart b' hb' (by rw [← hown]; exact hb''), h.fX, h.fP, h.fI, fun b' hb' => h.fF b' (by rw [← hown]; exact hb'), h.fB, fun b' hb' => h.fE b' (by simp [hb']), fun k b' x y z s hk hh hs => ?_⟩, Moves.of_only hO (fun j hj => ?_) (fun j cur e fr hj hh => ?_), ?_⟩
 · obtain ⟨a', ty, n0, _⟩ := h.tree.node p a hp
   have := h.tree.kind p a a' ty _ hp n0
   refine far n0 (fun e => ?_) (fun e => ?_) <;> (rw [e] at this; rcases this with e | e <;> exact absurd e (by decide))
 · rcases hf with hf | hf
   · obtain ⟨cur, hc⟩ := h.list.kind hb'
     exact LowX.ty_ne hc h.pool.obj (by decide) hf
   · exact h.apart b' hb' hf
 · obtain ⟨x, hx, _⟩ := h.blks.at' k b' hk
   exact far hx (by decide) (by decide)
 · obtain ⟨x', hx', _⟩ := h.blks.at' k b' hk
   rw [far hx' (by decide) (by decide)] at hh
   exact h.fS k b' x y z s hk hh hs
 · rcases hj with rfl | hj
   · exact h.fP
   · exact h.fF j hj
 · rcases tys j cur e fr hj hh with rfl | rfl
   · exact .inr (.inl rfl)
   · exact .inr (.inr (.inl rfl))
 · have := h.pool.blank b (by simp)
   rw [far this (by decide) (by decide)]; exact this
theorem LowX.other {b : Nat} {cur : Array Value} (h : LowX F ok w g c B U V il free vI vF N Mm) (hb : w.heap[b]? = some (.cells cur 87 (0, 0))) (hfree : b ∉ free) (hB : ∀ k, B k ≠ some b) (hO : Only (fun j => j = b) w w') : LowX F ok w' g c B U V il free vI vF N Mm := by
 obtain ⟨arr, o0, o⟩ := h.obj
 have far : ∀ {j : Nat} {a : Array Value} {e : TypeId} {fr : Nat × Nat}, w.heap[j]? = some (.cells a e fr) → j ≠ b → w'.heap[j]? = w.heap[j]? := fun {j a e fr} hj h1 => hO.block _ (lt_blk hj) h1
 have nt : ∀ {j : Nat} {a : Array Value} {e : TypeId} {fr : Nat × Nat}, w.heap[j]? = some (.cells a e fr) → e ≠ 87 → j ≠ b := fun hj he => LowX.ty_ne hj hb he
 have kk : ∀ e, e ≠ 87 → KeepT e w w' := fun e h1 => hO.keep (fun j cur' fr hf hh => nt hh h1 hf)
 refine ⟨⟨arr, by rw [far o0 (nt o0 (by decide))]; exact o0, o⟩, h.model.keep (kk _ (by decide)) (kk _ (by decide)) (kk _ (by decide)) (kk _ (by decide)), h.pool.keep (far h.pool.obj (nt h.pool.obj (by decide))) (fun b' hb' => ?_) (fun b' hb' => far (h.pool.blank b' hb') (fun e => hfree (by rw [← e]; exact hb'))),
   h.tree.keepT (fun p a hp => ?_) (fun p mb hp hm => hO.block _ (h.tree.kids p mb hp hm).lt (TreeI.mapne hb (h.tree.kids p mb hp hm)).symm), h.root, h.smap, h.list.keep (fun b' hb' => ?_), h.ilN, h.ilnd, h.blks.keep (fun k b' hk => ?_) (kk _ (by decide)) (kk _ (by decide)) (kk _ (by decide)), h.freeB, h.apart, h.fX, h.fP, h.fI, h.fF, h.fB, h.fE, fun k b' x y z s hk hh hs => ?_⟩
 · obtain ⟨cur', hc⟩ := h.pool.row.kind hb'
   exact far hc (nt hc (by decide))
 · obtain ⟨a', ty, n0, _⟩ := h.tree.node p a hp
   have := h.tree.kind p a a' ty _ hp n0
   refine far n0 (nt n0 (fun e => ?_))
   rw [e] at this; rcases this with e | e <;> exact absurd e (by decide)
 · obtain ⟨cur', hc⟩ := h.list.kind hb'
   exact far hc (nt hc (by decide))
 · obtain ⟨x, hx, _⟩ := h.blks.at' k b' hk
   exact far hx (fun e => hB k (by rw [← e]; exact hk))
 · obtain ⟨x', hx', _⟩ := h.blks.at' k b' hk
   rw [far hx' (fun e => hB k (by rw [← e]; exact hk))] at hh
   exact h.fS k b' x y z s hk hh hs
theorem LowX.laid {b : Nat} {x : Value} (h : LowX F ok w g c B U V il free vI vF N Mm) (hs : 1 ≤ c.slots) (k : Key) (u : Nat) (hb : w.heap[b]? = some (.cells #[x, blkV (B (pred c.slots k)), .int .i64 u] 87 (0, 0))) (hS : SlotsI 0 ok w x c k.1 (pred c.slots k).1.length (k.1.length - (pred c.slots k).1.length)) (hfree : b ∉ free) (hB : ∀ j, B j ≠ some b)
   (hk : B k = none) (hne : k.1 ≠ [] ∧ keyOk c.slots k ∧ k.1.length ≤ 40 ∧ ∀ t ∈ k.1, t < c.vocab) (hah : (pred c.slots k).1 ≠ [] → B (pred c.slots k) ≠ none) (hF : F b) (hFs : ∀ s, x.ownBlock = some s → F s) :
   LowX F ok w g c (fun i => if i = k then some b else B i) (fun i => if i = k then u else U i) V il free vI vF N Mm := by
 have hpk : pred c.slots k ≠ k := fun e => by
   have := (pred_len c.slots k hs hne.1).2
   rw [e] at this
   omega
 have hpj : ∀ j, B j ≠ none → pred c.slots j ≠ k := fun j hj e => by
   have := h.blks.ahead j hj (by rw [e]; exact hne.1)
   rw [e] at this
   exact this hk
 have hilk : ∀ p ∈ il, (p, 0) ≠ k := fun p hp e => h.ilN p hp (by rw [e]; exact hk)
 have hilB : ilB (fun i => if i = k then some b else B i) il = ilB B il := by
   unfold ilB
   apply List.map_congr_left
   intro p hp
   dsimp only
   rw [if_neg (hilk p hp)]
 refine ⟨h.obj, h.model, h.pool, h.tree, h.root, h.smap, by rw [hilB]; exact h.list, fun p hp => by rw [if_neg (hilk p hp)]; exact h.ilN p hp, h.ilnd, ⟨fun j b' hj => ?_, fun j hj => ?_, fun j hj hp => ?_, fun j j' b' hj hj' => ?_⟩, fun b' hb' j hj => ?_, h.apart, h.fX, h.fP, h.fI, h.fF, fun j b' hj => ?_, h.fE, fun j b' x' y' z' s hj hh hs' => ?_⟩
 · by_cases e : j = k
   · subst e
     simp only [if_true] at hj
     injection hj with hj
     subst hj
     refine ⟨x, ?_, hS⟩
     dsimp only
     rw [if_neg hpk, if_pos rfl]
     exact hb
   · simp only [if_neg e] at hj
     obtain ⟨x', hx', hs'⟩ := h.blks.at' j b' hj
     refine ⟨x', ?_, hs'⟩
     dsimp only
     rw [if_neg (hpj j (by rw [hj]; simp)), if_neg e]
     exact hx'
 · by_cases e : j = k
   · rw [e]; exact hne
   · simp only [if_neg e] at hj
     exact h.blks.ne j hj
 · by_cases e : j = k
   · subst e
     rw [if_neg hpk]
     exact hah hp
   · simp only [if_neg e] at hj
     rw [if_neg (hpj j hj)]
     exact h.blks.ahead j hj hp
 · by_cases e : j = k
   · by_cases e' : j' = k
     · rw [e, e']
     · simp only [if_pos e] at hj
       simp only [if_neg e'] at hj'
       injection hj with hj
       exact absurd (by rw [hj]; exact hj') (hB j')
   · by_cases e' : j' = k
     · simp only [if_neg e] at hj
       simp only [if_pos e'] at hj'
       injection hj' with hj'
       exact absurd (by rw [hj']; exact hj) (hB j)
     · simp only [if_neg e] at hj
       simp only [if_neg e'] at hj'
       exact h.blks.inj j j' b' hj hj'
 · by_cases e : j = k
   · simp only [if_pos e] at hj
     injection hj with hj
     exact hfree (by rw [hj]; exact hb')
   · simp only [if_neg e] at hj
     exact h.freeB b' hb' j hj
 · by_cases e : j = k
   · simp only [if_pos e] at hj
     injection hj with hj
     rw [← hj]; exact hF
   · simp only [if_neg e] at hj
     exact h.fB j b' hj
 · by_cases e : j = k
   · simp only [if_pos e] at hj
     injection hj with hj
     subst hj
     rw [hb] at hh
     injection hh with hh
     injection hh with hh _ _
     have : x = x' := by
       have := congrArg (fun a => a[0]?) hh
       simpa using this
     subst this
     exact hFs s hs'
   · simp only [if_neg e] at hj
     exact h.fS j b' x' y' z' s hj hh hs'
end
theorem pred_fill {s f e t : Nat} {T : List Nat} (hs : 1 ≤ s) (hf : f % s = 0) (h1 : f < e) (h2 : e ≤ f + s) (h3 : e ≤ T.length) : pred s (T.take e, t) = (T.take f, 0) := by
 unfold pred
 have hl : (T.take e).length = e := by simp; omega
 simp only [hl]
 have e1 : (e - 1) / s * s = f := by
   obtain ⟨q, hq⟩ := Nat.dvd_of_mod_eq_zero hf
   have : (e - 1) / s = q := by
     rw [show e - 1 = (e - 1 - f) + s * q by omega, Nat.add_mul_div_left _ _ (by omega), Nat.div_eq_of_lt (by omega), Nat.zero_add]
   rw [this, hq, Nat.mul_comm]
 rw [e1, List.take_take, Nat.min_eq_left (by omega)]
end Go.Proofs.Ytlmflighkkgikaa
