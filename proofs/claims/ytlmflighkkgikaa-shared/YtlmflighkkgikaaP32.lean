import Derived.Test.YtlmflighkkgikaaP11
import Derived.Test.YtlmflighkkgikaaP31

namespace Go.Proofs.Ytlmflighkkgikaa
open Go.RowKit
attribute [local go_sem ↓] Go.wp_at_zero Go.wp_at_succ
def endKey (s : Nat) (T : List Nat) (tn : Nat) : Key := (T, if T.length % s = 0 then 0 else tn)
def LayTo (F ok : Nat → Prop) (w : World) (g : Parts) (c : Cfg) (H : List Key) (il : List (List Nat)) (B : Key → Option Nat) (k : Key) (e : Ending) (w' : World) : Prop :=
 ∃ B' free', e = .returned (blkV (B' k)) ∧ StoreI (grow F w) ok w' g c (k :: H) il B' free' ∧ Moves F w w' ∧ ∀ x, B x ≠ none → B' x = B x
theorem nbOf_step {s n f : Nat} (hs : 1 ≤ s) (h : f < n) : nbOf s (n - f) = nbOf s (n - (f + s)) + 1 := by
 unfold nbOf
 by_cases hle : f + s ≤ n
 · rw [show n - f + s - 1 = (n - (f + s) + s - 1) + s by omega, Nat.add_div_right _ (by omega)]
 · have h1 : n - (f + s) = 0 := by omega
   rw [h1, Nat.div_eq_of_lt (show 0 + s - 1 < s by omega)]
   rw [show n - f + s - 1 = (n - f - 1) + s by omega, Nat.add_div_right _ (by omega), Nat.div_eq_of_lt (show n - f - 1 < s by omega)]
theorem snoc_of_pos {α : Type} (l : List α) (h : 0 < l.length) : ∃ m b, l = m ++ [b] := by
 refine ⟨l.dropLast, l.getLast (List.ne_nil_of_length_pos h), ?_⟩
 exact (List.dropLast_concat_getLast _).symm
def poolLen (g : Parts) (w : World) : Nat := match w.cell? ⟨g.PL, 0, none⟩ with
 | some (.slice _ n _) => n
 | _ => 0
theorem StoreI.poolLen_eq {F ok : Nat → Prop} {w : World} {g : Parts} {c : Cfg} {H : List Key} {il : List (List Nat)} {B : Key → Option Nat} {free : List Nat} (h : StoreI F ok w g c H il B free) : poolLen g w = free.length := by
 obtain ⟨vI, vF, N, Mm, hl⟩ := h.low
 obtain ⟨a, cap, e, _⟩ := ptrs_read hl.pool.row
 unfold poolLen
 rw [cell_blk hl.pool.obj, e]
 rfl
theorem mod_gap {s q e : Nat} (_hs : 1 ≤ s) (hq : q % s = 0) (h1 : q < e) (h2 : e < q + s) : e % s ≠ 0 := fun h => by
 obtain ⟨x, hx⟩ := Nat.dvd_of_mod_eq_zero hq
 obtain ⟨y, hy⟩ := Nat.dvd_of_mod_eq_zero h
 have h3 : s * x < s * y := by omega
 have h4 : x < y := Nat.lt_of_mul_lt_mul_left h3
 have h5 : s * (x + 1) ≤ s * y := Nat.mul_le_mul_left _ h4
 rw [Nat.mul_add] at h5
 omega
set_option maxRecDepth 100000 in
set_option maxHeartbeats 2000000 in
theorem lay_any (F ok : Nat → Prop) (g : Parts) (c : Cfg) (hc : c.ok) (H : List Key) (il : List (List Nat)) (B : Key → Option Nat) (free : List Nat) (T : List Nat) (vt vk : Value) (mk f tn : Nat) (w : World)
   (h : StoreI F ok w g c ((T.take f, 0) :: H) il B free) (hT : TokT w vt T) (hK : CellsI 0 ok w vk c T mk) (hmk : mk ≤ 1000) (htok : ∀ t ∈ T, t < c.vocab) (hl : T.length ≤ 40) (hok : ∀ b, w.heap.size ≤ b → ok b) (hSM : ¬ F g.SM ∧ g.SM < w.heap.size)
   (hf : f % c.slots = 0) (hfl : f ≤ T.length) (htn : tn ≠ 0) (hneed : nbOf c.slots (T.length - f) ≤ free.length) (hnew : ∀ e, f < e → e ≤ T.length → e % c.slots = 0 → ¬ live c.slots H il (T.take e, 0)) (hnew2 : T.length % c.slots ≠ 0 → ¬ live c.slots H il (T, tn)) :
   Calls Try.prog 53 #[.pointer (some ⟨g.X, 0, none⟩), blkV (B (T.take f, 0)), vt, vk] w fun e w' => LayTo F ok w g c H il B (endKey c.slots T tn) e w' := by
 obtain ⟨s1, s2⟩ := hc.slots
 obtain ⟨ap, cp, rfl, hp1, hp2⟩ := hT.slice
 unfold maxLen at hp2
 have HT := hide hT
 have HK := hide hK
 have Hok := hide hok
 have Hnew := hide hnew
 have Hnew2 := hide hnew2
 clear hT hK hok hnew hnew2
 obtain ⟨vp, hvp⟩ : ∃ vp, vp = blkV (B (T.take f, 0)) := ⟨_, rfl⟩
 rw [← hvp]
 have Hvp := hide hvp
 clear hvp
 go_enter Try.func53, Try.ntmps53
 go_wp2
 go_loopw [1] (fun v wr => ∃ (q : Nat) (B' : Key → Option Nat) (free' : List Nat), v = blkV (B' (T.take q, if q % c.slots = 0 then 0 else tn)) ∧ f ≤ q ∧ q ≤ T.length ∧ Hid (q % c.slots = 0 ∨ q = T.length) ∧ StoreI (grow F w) ok wr g c ((T.take q, if q % c.slots = 0 then 0 else tn) :: H) il B' free' ∧ Hid (q % c.slots = 0 → nbOf c.slots (T.length - q) ≤ free'.length) ∧ Hid (∀ x, B x ≠ none → B' x = B x) ∧ Moves F w wr) (fun _ wr => poolLen g wr)
 case atStart =>
   have e0 : (if f % c.slots = 0 then 0 else tn) = 0 := if_pos hf
   exact ⟨f, B, free, by rw [e0]; exact Hvp.out, Nat.le_refl _, hfl, .inl hf, by rw [e0]; exact h.mono (fun k hk => .inl hk), fun _ => hneed, fun _ _ => rfl, Moves.refl _ _⟩
 case round =>
   obtain ⟨q, B', free', rfl, hq1, hq2, Hq, hS, Hneed, Hsub, hM⟩ := hrel
   obtain ⟨kq, hkq⟩ : ∃ kq : Key, kq = (T.take q, if q % c.slots = 0 then 0 else tn) := ⟨_, rfl⟩
   rw [← hkq] at hS ⊢
   have hlq : kq.1.length = q := by rw [hkq]; simp; omega
   have hall := seqall_any ok c hc B' (users c.slots (kq :: H)) kq wr (hS.seqAt kq (fun e => .inl ((heldBy_cons _ _ _ _).2 (.inl (on_self _ _ e)))))
   rw [hlq] at hall
   have Hall := hide hall
   have HS := hide hS
   have Hkq := hide hkq
   have hMsz := hM.size
   clear hall hS hkq hlq
   obtain ⟨pq, hpq⟩ : ∃ pq, pq = blkV (B' kq) := ⟨_, rfl⟩
   rw [← hpq] at Hall ⊢
   have Hpq := hide hpq
   clear hpq
   go_wp2_with fail
   refine Hall.out.mono ?_
   rintro e w1 ⟨r, rfl, ⟨S, hr1, _⟩, hb1⟩
   obtain ⟨ar, cr, er⟩ := owns_form hr1
   subst er
   have hS1 := HS.out.below hb1
   have hM1 : Moves F w w1 := hM.trans (Moves.of_below hb1)
   clear Hall hr1
   by_cases hlt : q < T.length
   · have hqm : q % c.slots = 0 := by
       rcases Hq.out with e | e
       · exact e
       · omega
     have e0 : kq = (T.take q, 0) := by rw [Hkq.out, if_pos hqm]
     rw [e0] at hS1
     have hnb := Hneed.out hqm
     have hst := nbOf_step s1 hlt
     obtain ⟨fr, b, hfr⟩ := snoc_of_pos free' (by omega)
     subst hfr
     obtain ⟨en, t, hen, hen2, hent⟩ : ∃ en t, ((q + c.slots ≤ T.length ∧ en = q + c.slots ∧ t = 0) ∨ (T.length < q + c.slots ∧ en = T.length ∧ t ≠ 0)) ∧ q < en ∧ t = if en % c.slots = 0 then 0 else tn := by
       by_cases hfit : q + c.slots ≤ T.length
       · refine ⟨q + c.slots, 0, .inl ⟨hfit, rfl, rfl⟩, by omega, ?_⟩
         rw [if_pos (by rw [Nat.add_mod_right]; exact hqm)]
       · refine ⟨T.length, tn, .inr ⟨by omega, rfl, htn⟩, hlt, ?_⟩
         rw [if_neg (mod_gap s1 hqm hlt (by omega))]
     have henl : en ≤ T.length := by omega
     have hlive : ¬ live c.slots ((T.take q, 0) :: H) il (T.take en, t) := by
       have hle : (T.take en).length = en := by simp; omega
       have hlq : (T.take q).length = q := by simp; omega
       have hH : ¬ live c.slots H il (T.take en, t) := by
         by_cases he : en % c.slots = 0
         · rw [if_pos he] at hent
           rw [hent]
           exact Hnew.out en (by omega) henl he
         · rw [if_neg he] at hent
           have : en = T.length := by
             rcases hen with ⟨_, e2, _⟩ | ⟨_, e2, _⟩
             · exact absurd (by rw [e2, Nat.add_mod_right]; exact hqm) he
             · exact e2
           rw [hent, this, List.take_length]
           exact Hnew2.out (by rw [← this]; exact he)
       rintro (hh | hh)
       · rcases (heldBy_cons _ _ _ _).1 hh with ⟨_, e | ⟨_, _, e⟩⟩ | hh
         · have := congrArg (fun x : Key => x.1.length) e
           simp only [hle, hlq] at this
           omega
         · have := e.length_le
           simp only [hle, hlq] at this
           omega
         · exact hH (.inl hh)
       · exact hH (.inr hh)
     have hkept : ∀ e, ¬ mutT e → KeepT e w w1 := hM1.kept
     have hfill := fill_any (grow F w) ok g c hc H il B' fr b T (.slice ap T.length cp) vk mk q en t w1 hS1 (HT.out.keep (hkept _ (by unfold mutT; decide))) (HK.out.keepT (hkept _ (by unfold mutT; decide)) (hkept _ (by unfold mutT; decide)) (hkept _ (by unfold mutT; decide))) hmk htok hl (fun x hx => Hok.out x (by have := hM1.size; omega)) ⟨fun hg => hg.elim hSM.1 (fun hle => by have := hSM.2; omega), by have := hSM.2; have := hM1.size; omega⟩ hqm hlt hen hlive
     rw [← e0, ← Hpq.out] at hfill
     have Hfill := hide hfill
     have Hen := hide hen
     have Hent := hide hent
     have Hst := hide hst
     have Hlive := hide hlive
     clear hfill hS1 hlive hkept hen hent hst
     go_wp2_with fail
     refine Hfill.out.mono ?_
     rintro e w2 ⟨rfl, hS2, hM2⟩
     have HS2 := hide hS2
     clear hS2 Hfill
     go_wp2
     go_roundw
     case rel =>
       refine ⟨en, _, fr, ?_, by omega, henl, ?_, by rw [← Hent.out]; exact HS2.out.mono (fun k hk => grow_mono hM1.size k hk), fun he => ?_, fun x hx => ?_, hM1.trans hM2⟩
       · rw [← Hent.out]; simp [blkV]
       · show en % c.slots = 0 ∨ en = T.length
         rcases Hen.out with ⟨_, e2, _⟩ | ⟨_, e2, _⟩
         · left; rw [e2, Nat.add_mod_right]; exact hqm
         · exact .inr e2
       · have a1 := Hst.out
         have a2 := hnb
         simp only [List.length_append, List.length_singleton] at a2
         rcases Hen.out with ⟨_, e2, _⟩ | ⟨e1, e2, _⟩
         · rw [e2]; omega
         · rw [e2, Nat.sub_self]
           have : nbOf c.slots 0 = 0 := by unfold nbOf; exact Nat.div_eq_of_lt (by omega)
           omega
       · have e3 : B' x ≠ none := by rw [Hsub.out x hx]; exact hx
         have e4 : x ≠ (T.take en, t) := fun e => by
           have h1 := (HS.out.dom x).1 e3
           rw [e, e0] at h1
           exact Hlive.out h1
         simp only [if_neg e4]
         exact Hsub.out x hx
     case measure =>
       rw [HS2.out.poolLen_eq, HS.out.poolLen_eq]
       simp
   · have hqe : q = T.length := by omega
     have ek : kq = endKey c.slots T tn := by
       rw [Hkq.out, hqe, List.take_length]; rfl
     have HS1 := hide hS1
     clear hS1
     go_wp2
     go_ret
     rw [ek] at HS1 Hpq
     exact ⟨B', free', by rw [Hpq.out]; rfl, HS1.out, hM1, Hsub.out⟩
end Go.Proofs.Ytlmflighkkgikaa
namespace Go.Proofs.Ytlmflighkkgikaa
theorem chain_nodup (s : Nat) (hs : 1 ≤ s) (n : Nat) : ∀ k : Key, k.1.length ≤ n → keyOk s k → (chain s k).Nodup := by
 induction n with
 | zero =>
   intro k hk _
   rw [chain_nil s k hs (List.length_eq_zero_iff.1 (by omega))]
   exact List.nodup_nil
 | succ n ih =>
   intro k hk hok
   by_cases e : k.1 = []
   · rw [chain_nil s k hs e]; exact List.nodup_nil
   · rw [chain_step s k hs hok e, List.nodup_append]
     have hlt := (pred_len s k hs e).2
     refine ⟨ih (pred s k) (by omega) (pred_ok s k hs), by simp, fun a ha b hb e' => ?_⟩
     rw [List.mem_singleton] at hb
     subst hb e'
     exact not_on_pred s a hs e ((mem_chain s _ a hs (pred_ok s a hs)).1 ha)
theorem farTo_prefix (V : List Nat → Option Nat) (T : List Nat) (n : Nat) : farTo V T n <+: T := by
 induction n with
 | zero => simp [farTo]
 | succ n ih =>
   unfold farTo
   split
   · exact List.take_prefix _ _
   · exact ih
theorem farTo_told (V : List Nat → Option Nat) (T : List Nat) (n : Nat) : farTo V T n = [] ∨ V (farTo V T n) ≠ none := by
 induction n with
 | zero => exact .inl rfl
 | succ n ih =>
   unfold farTo
   split
   · rename_i h
     right
     intro e
     rw [e] at h
     cases h
   · exact ih
theorem farTo_far (V : List Nat → Option Nat) (T : List Nat) (n : Nat) (hn : n ≤ T.length) : ∀ m, (farTo V T n).length < m → m ≤ n → V (T.take m) = none := by
 induction n with
 | zero => intro m h1 h2; omega
 | succ n ih =>
   intro m h1 h2
   unfold farTo at h1
   split at h1
   · simp at h1; omega
   · rename_i h
     by_cases e : m = n + 1
     · rw [e]
       cases hv : V (T.take (n + 1)) with
       | none => rfl
       | some x => rw [hv] at h; simp at h
     · exact ih (by omega) m h1 (by omega)
section
variable {s v : Nat} {H : List Key} {il : List (List Nat)} {B : Key → Option Nat}
theorem far_facts (hp : Pure s v H il) (hd : ∀ k, B k ≠ none ↔ live s H il k) (T : List Nat) :
   let p := farOf (fun p => B (p, 0)) T
   p <+: T ∧ p = T.take p.length ∧ p.length ≤ T.length ∧ p.length % s = 0 ∧ ((p, 0) = (([], 0) : Key) ∨ live s H il (p, 0)) ∧ ∀ e, p.length < e → e ≤ T.length → ¬ live s H il (T.take e, 0) := by
 intro p
 have h1 : p <+: T := farTo_prefix _ _ _
 have h2 : p = [] ∨ B (p, 0) ≠ none := farTo_told _ _ _
 have h3 : ∀ m, p.length < m → m ≤ T.length → B (T.take m, 0) = none := farTo_far _ _ _ (Nat.le_refl _)
 refine ⟨h1, List.prefix_iff_eq_take.1 h1, h1.length_le, ?_, ?_, fun e he1 he2 hl => (hd _).2 hl (h3 e he1 he2)⟩
 · rcases h2 with e | e
   · rw [e]; simp
   · exact (hp.live_ok ((hd _).1 e)).1.1 rfl
 · rcases h2 with e | e
   · exact .inl (by rw [e])
   · exact .inr ((hd _).1 e)
theorem far_covers {k0 : Key} {H0 : List Key} (hp : Pure s v (k0 :: H0) il) (T far : List Nat) (hk : k0.1 <+: T) (hfar : far = T.take far.length) (hno : ∀ e, far.length < e → e ≤ T.length → ¬ live s (k0 :: H0) il (T.take e, 0)) (x : Key) (hx : on s k0 x) (hx2 : x.2 = 0) : on s (far, 0) x := by
 have hlx : live s (k0 :: H0) il x := .inl ((heldBy_cons _ _ _ _).2 (.inl hx))
 have hok := hp.live_ok hlx
 have hpx : x.1 <+: T := by
   obtain ⟨_, rfl | ⟨_, _, e⟩⟩ := hx
   · exact hk
   · exact e.trans hk
 have hle : x.1.length ≤ far.length := by
   refine Nat.le_of_not_lt (fun h => ?_)
   refine hno x.1.length h hpx.length_le ?_
   rw [← List.prefix_iff_eq_take.1 hpx, show ((x.1, 0) : Key) = x from Prod.ext rfl hx2.symm]
   exact hlx
 refine ⟨hx.1, .inr ⟨hx2, hok.1.1 hx2, ?_⟩⟩
 rw [hfar]
 rw [List.prefix_iff_eq_take.1 hpx]
 refine List.prefix_iff_eq_take.2 ?_
 rw [List.take_take]
 congr 1
 simp
 have := hpx.length_le
 omega
theorem leftOf_covered {k0 : Key} {H0 : List Key} (hs : 1 ≤ s) (hk : keyOk s k0) (fk : Key) (hc : ∀ x, on s k0 x → x.2 = 0 → on s fk x) : leftOf s (fk :: H0) k0 = [] := by
 unfold leftOf
 rw [List.filterMap_eq_nil_iff]
 intro x hx
 have hx := (mem_chain s k0 x hs hk).1 (List.mem_reverse.1 hx)
 rw [if_neg]
 rintro ⟨h1, h2⟩
 exact h2 ((heldBy_cons _ _ _ _).2 (.inl (hc x hx h1)))
theorem nUsed_covered {k0 : Key} {H0 : List Key} (hs : 1 ≤ s) (hk : keyOk s k0) (hH : ∀ h ∈ H0, keyOk s h) (f : List Nat) (hf : keyOk s (f, 0)) (hc : ∀ x, on s k0 x → x.2 = 0 → on s (f, 0) x) (hkn : k0.1 = [] → k0.2 = 0) :
   nUsed s (k0 :: (f, 0) :: H0) = nUsed s ((f, 0) :: H0) + ownTail (users s (k0 :: H0)) k0 := by
 have okF : ∀ h ∈ (f, 0) :: H0, keyOk s h := fun h hh => by
   rcases List.mem_cons.1 hh with rfl | hh
   · exact hf
   · exact hH h hh
 by_cases e : k0.1 = []
 · have e0 : k0 = ([], 0) := Prod.ext e (hkn e)
   have ho : ownTail (users s (k0 :: H0)) k0 = 0 := by unfold ownTail; rw [if_neg (fun q => q.1 e)]
   rw [ho, e0, nUsed_nil s _ 0 hs okF rfl]; rfl
 · have cover : ∀ j, (∀ x, on s j x → x.2 = 0 ∧ on s k0 x) → keyOk s j → nUsed s (j :: (f, 0) :: H0) = nUsed s ((f, 0) :: H0) := fun j hj hjok => by
     refine nUsed_congr s _ _ hs (fun h hh => ?_) okF (fun x => ?_)
     · rcases List.mem_cons.1 hh with rfl | hh
       · exact hjok
       · exact okF h hh
     · rw [heldBy_cons]
       refine ⟨fun h => h.elim (fun h1 => (heldBy_cons _ _ _ _).2 (.inl ?_)) id, .inr⟩
       obtain ⟨q1, q2⟩ := hj x h1
       exact hc x q2 q1
   by_cases h2 : k0.2 = 0
   · have ho : ownTail (users s (k0 :: H0)) k0 = 0 := by unfold ownTail; rw [if_neg (fun q => q.2.1 h2)]
     rw [ho, cover k0 (fun x hx => ⟨?_, hx⟩) hk]; rfl
     obtain ⟨_, rfl | ⟨q, _⟩⟩ := hx
     · exact h2
     · exact q
   · have hst := nUsed_step s k0 ((f, 0) :: H0) hs hk okF e
     rw [hst, cover (pred s k0) (fun x hx => ⟨?_, (on_step s k0 x hs hk).2 (.inr hx)⟩) (pred_ok s k0 hs)]
     · congr 1
       have hheld : heldBy s ((f, 0) :: H0) k0 ↔ heldBy s H0 k0 := by
         rw [heldBy_cons]
         refine ⟨fun h => h.elim (fun h1 => ?_) id, .inr⟩
         obtain ⟨_, e1 | ⟨e1, _⟩⟩ := h1
         · exact absurd (by rw [e1]) h2
         · exact absurd e1 h2
       have hu : users s (k0 :: H0) k0 = users s H0 k0 + 1 := by rw [users_cons, if_pos (on_self s k0 e)]
       unfold ownTail
       by_cases hh : heldBy s H0 k0
       · have := (users_pos s H0 k0).2 hh
         rw [if_pos (hheld.2 hh), if_neg (fun q => by have := q.2.2; omega)]
       · have := (users_zero s H0 k0).2 hh
         rw [if_neg (fun q => hh (hheld.1 q)), if_pos ⟨e, h2, by omega⟩]
     · obtain ⟨_, rfl | ⟨q, _⟩⟩ := hx
       · rfl
       · exact q
theorem idleN_up (hs : 1 ≤ s) (hp : Pure s v H il) (k : Key) (hk : k = ([], 0) ∨ live s H il k) : idleN s (users s H) k + (notUp k.1 il).length = il.length := by
 have hok : keyOk s k := by
   rcases hk with rfl | hk
   · simp [keyOk]
   · exact (hp.live_ok hk).1
 have e1 : idleN s (users s H) k = (il.filter (fun p => decide (p <+: k.1))).length := by
   unfold idleN
   rw [List.countP_eq_length_filter]
   have : (((chain s k).filter (fun x => decide (users s H x = 0))).map (fun x => x.1)).length = (il.filter (fun p => decide (p <+: k.1))).length := by
     have mem : ∀ x ∈ (chain s k).filter (fun x => decide (users s H x = 0)), on s k x ∧ x.2 = 0 ∧ x.1 ∈ il := fun x hx => by
       obtain ⟨hx1, hx2⟩ := List.mem_filter.1 hx
       have hon := (mem_chain s k x hs hok).1 hx1
       have hz := (users_zero s H x).1 (by simpa using hx2)
       have hl : live s H il x := by
         rcases hk with rfl | hk
         · exact absurd hon (on_nil s x 0)
         · exact hp.live_on hk hon
       rcases hl with hl | hl
       · exact absurd hl hz
       · exact ⟨hon, hl⟩
     refine nodup_eq ?_ (hp.nodup.filter _) (fun p => ?_)
     · have hnd := (chain_nodup s hs _ k (Nat.le_refl _) hok).filter (fun x => decide (users s H x = 0))
       unfold List.Nodup
       rw [List.pairwise_map]
       refine List.Pairwise.imp_of_mem (fun {a b} ha hb hab e => hab ?_) hnd
       exact Prod.ext e ((mem a ha).2.1.trans (mem b hb).2.1.symm)
     · rw [List.mem_map, List.mem_filter]
       constructor
       · rintro ⟨x, hx, rfl⟩
         obtain ⟨q1, q2, q3⟩ := mem x hx
         refine ⟨q3, ?_⟩
         obtain ⟨_, rfl | ⟨_, _, e⟩⟩ := q1
         · simp
         · simpa using e
       · rintro ⟨h1, h2⟩
         obtain ⟨q1, q2, _⟩ := hp.whole p h1
         have hon : on s k (p, 0) := ⟨q1, .inr ⟨rfl, q2, by simpa using h2⟩⟩
         refine ⟨(p, 0), List.mem_filter.2 ⟨(mem_chain s k _ hs hok).2 hon, ?_⟩, rfl⟩
         simpa using (users_zero s H (p, 0)).2 (hp.out p h1)
   rw [List.length_map] at this
   exact this
 have e2 := filter_split (fun p : List Nat => decide (p <+: k.1)) il
 have e3 : (notUp k.1 il).length = (il.filter (fun x => !decide (x <+: k.1))).length := by
   unfold notUp
   congr 1
   apply List.filter_congr
   intro x _
   by_cases e : x <+: k.1 <;> simp [e]
 omega
end
theorem StoreI.come {F ok : Nat → Prop} {w : World} {g : Parts} {c : Cfg} {H : List Key} {il : List (List Nat)} {B : Key → Option Nat} {free : List Nat} (h : StoreI F ok w g c H il B free) (hc : c.ok) (hm : H.length ≤ 99) : StoreI F ok w g c (([], 0) :: H) il B free := by
 obtain ⟨vI, vF, N, Mm, hl⟩ := h.low
 have eu : users c.slots H = users c.slots (([], 0) :: H) := by
   funext k
   rw [users_cons, if_neg (on_nil c.slots k 0)]; rfl
 rw [eu] at hl
 have hp := h.pure
 refine ⟨⟨vI, vF, N, Mm, hl⟩, ⟨fun x hx => ?_, hp.whole, fun p hq hh => hp.out p hq (((heldBy_cons _ _ _ _).1 hh).elim (fun e => absurd e (on_nil _ _ 0)) id), hp.order, fun p hq q h1 h2 h3 => (hp.shut p hq q h1 h2 h3).imp id (fun e => (heldBy_cons _ _ _ _).2 (.inr e))⟩, fun k => (h.dom k).trans (live_gone k).symm, ?_, by simp; omega⟩
 · rcases List.mem_cons.1 hx with rfl | hx
   · exact ⟨by simp [keyOk], by simp, by simp⟩
   · exact hp.key x hx
 · rw [nUsed_nil c.slots H 0 hc.slots.1 hp.ok rfl]
   exact h.count
end Go.Proofs.Ytlmflighkkgikaa
