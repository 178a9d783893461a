import Derived.Test.YtlmflighkkgikaaP07
import Derived.Test.YtlmflighkkgikaaP09

namespace Go.Proofs.Ytlmflighkkgikaa
open Go.RowKit
theorem root1_any (m n : Int) (b : Nat) (w : World) (hb : w.cell? ⟨b, 0, none⟩ = some (.int .i64 n)) (h0 : 0 ≤ m) (h1 : m ≤ 1700000000) :
   Calls Try.prog 88 #[.int .i64 m, .pointer (some ⟨b, 0, none⟩)] w fun e w' => e = .returned (.bool (decide (n < (m + 1) * (m + 1)))) ∧ w' = w := by
 have hs : 0 ≤ (m + 1) * (m + 1) := Int.mul_nonneg (by omega) (by omega)
 have hs2 : (m + 1) * (m + 1) ≤ 1700000001 * 1700000001 := Int.mul_le_mul (by omega) (by omega) (by omega) (by omega)
 go_enter Try.func88, Try.ntmps88
 go_wp2
 go_ret
 exact ⟨rfl, rfl⟩
set_option maxHeartbeats 400000 in
theorem search_root (n : Int) (b : Nat) (w : World) (hb : w.cell? ⟨b, 0, none⟩ = some (.int .i64 n)) (h0 : 1 ≤ n) (h1 : n ≤ 1700000000) :
   Calls Try.prog 87 #[.int .i64 n, .func (.func 88) #[] #[.pointer (some ⟨b, 0, none⟩)]] w fun e w' => e = .returned (.int .i64 (rootI n)) ∧ w' = w := by
 go_enter Try.func87, Try.ntmps87
 go_wp2
 go_loop [5, 6] (fun a c => ∃ i j : Int, a = .int .i64 i ∧ c = .int .i64 j ∧ 0 ≤ i ∧ i ≤ j ∧ j ≤ n ∧ i * i ≤ n ∧ n < (j + 1) * (j + 1)) (fun a c => (intOf c - intOf a).toNat)
 case atStart => exact ⟨0, n, rfl, rfl, by omega, by omega, by omega, by omega, by have := sq_mono (a := 1) (b := n + 1) (by omega) (by omega); have := Int.mul_le_mul_of_nonneg_left (show (1 : Int) ≤ n + 1 by omega) (show 0 ≤ n + 1 by omega); rw [Int.mul_one] at this; omega⟩
 case round =>
   obtain ⟨i, j, rfl, rfl, hi, hij, hj, hii, hjj⟩ := hrel
   by_cases hlt : i < j
   · go_wp2_with fail
     refine Calls_use (root1_any _ n b _ hb (by omega) (by omega)) ?_
     by_cases hq : n < ((i + j) / 2 + 1) * ((i + j) / 2 + 1)
     · have hq' : decide (n < ((i + j) / 2 + 1) * ((i + j) / 2 + 1)) = true := by simpa using hq
       rw [hq']
       have Hq := hide hq
       clear hq hq'
       go_wp2
       go_round
       case rel => exact ⟨i, (i + j) / 2, rfl, rfl, by omega, by omega, by omega, hii, Hq.out⟩
       case measure => simp [intOf]; omega
     · have hq' : decide (n < ((i + j) / 2 + 1) * ((i + j) / 2 + 1)) = false := by simpa using hq
       rw [hq']
       have Hq := hide (Int.not_lt.1 hq)
       clear hq hq'
       go_wp2
       go_round
       case rel => exact ⟨(i + j) / 2 + 1, j, rfl, rfl, by omega, by omega, by omega, Hq.out, hjj⟩
       case measure => simp [intOf]; omega
   · have e : j = i := by omega
     subst e
     have HR := hide (rootI_eq n j hi hii hjj)
     go_wp2
     go_ret
     exact ⟨ret_int HR.out.symm, rfl⟩
theorem root_any (n : Int) (w : World) (h0 : 1 ≤ n) (h1 : n ≤ 1700000000) :
   Calls Try.prog 77 #[.int .i64 n] w fun e w' => e = .returned (.int .i64 (rootI n)) ∧ w' = w.alloc (.cells #[.int .i64 n] 3) := by
 have hmf : ∀ (fn : Fn) (first cap : Array Value) (w : World), (Instr.makeFunc fn first cap).run Try.prog w = .ok (.func fn first cap) w := fun _ _ _ _ => rfl
 go_enter Try.func77, Try.ntmps77
 go_wp2_with fail
 refine Calls_use (search_root n w.heap.size _ (by simp) h0 h1) ?_
 go_wp2
 go_ret
 exact ⟨rfl, rfl⟩
set_option maxHeartbeats 400000 in
theorem dnorm_any (n : Nat) (va : Value) (v : Nat → Int) (w : World) (ha : IntsT w va n v) (hn1 : 1 ≤ n) (hn : n ≤ 100) (bv : ∀ j, -4095 ≤ v j ∧ v j ≤ 4095) :
   Calls Try.prog 58 #[va] w fun e w' => ∃ r, e = .returned r ∧ IntsT w' r n (normOf n v) ∧ Below w.heap.size w w' := by
 obtain ⟨aa, ca, rfl, ha1, ha3⟩ := ha.at
 obtain ⟨b1, o1, rfl, hlb1, hc1⟩ := ha3 (by omega)
 have Hc1 := hide hc1
 clear hc1 ha3
 have hmk := run_make_row' (P := Try.prog) 24 3 (.int .i64 0) 8 Try.underlying24 Try.info_int rfl .i64 .i64 n (by omega) (by omega)
 obtain ⟨hs1, hs2⟩ := sq_sum n n v bv (Nat.le_refl _) hn
 have hd1 : 0 ≤ (sumTo (fun j => v j * v j) n) / n := Int.ediv_nonneg hs1 (by omega)
 have hd2 : (sumTo (fun j => v j * v j) n) / n ≤ 1676902500 := Int.le_trans (Int.ediv_le_self _ hs1) hs2
 have hr1 := rootI_pos ((sumTo (fun j => v j * v j) n) / n + 1) (by omega)
 have HR := hide (show ∀ i, cutI ((v i * 256).tdiv (rootI ((sumTo (fun j => v j * v j) n) / n + 1))) = normOf n v i from fun i => by
       unfold normOf; rw [Int.tdiv_eq_ediv_of_nonneg hs1])
 go_enter Try.func58, Try.ntmps58
 go_wp2_with fail
 refine Calls_use (product_any n n _ _ v v _ ha ha (Nat.le_refl _) hn bv bv) ?_
 go_wp2_with fail
 refine (root_any _ _ (by omega) (by omega)).mono ?_
 rintro e w1 ⟨rfl, rfl⟩
 generalize rootI ((sumTo (fun j => v j * v j) n) / n + 1) = R at hr1 HR ⊢
 clear hs1 hs2
 go_wp2
 clear hmk
 go_loopw [20] (fun i wr => ∃ k : Nat, k ≤ n ∧ i = .int .i64 k ∧ wr.rowIs (w.heap.size + 1) 3 n (fun j => .int .i64 (filled (normOf n v) k j)) ∧ Below w.heap.size w wr) (fun i _ => n - (intOf i).toNat)
 case atStart =>
   refine ⟨0, Nat.zero_le _, rfl, ?_, ((Below.refl _ _).alloc (Nat.le_refl _) _).alloc (by simp) _⟩
   have := fill_start (w.alloc (.cells #[.int .i64 ((sumTo (fun j => v j * v j) n) / n + 1)] 3)) n (normOf n v)
   simpa using this
 case round =>
   obtain ⟨k, hk, rfl, hrow, hbel⟩ := hrel
   by_cases hlt : k < n
   · have c1 := (hbel.cell (p := ⟨b1, o1 + k, none⟩) hlb1).trans (Hc1.out k hlt)
     have c3 := hrow.cell hlt
     have c4 := hrow.frozen k
     obtain ⟨x1, x2⟩ := bv k
     go_wp2_with fail
     refine Calls_use (cut_any _ _) ?_
     rw [HR.out]
     go_wp2
     go_roundw
     case rel => exact ⟨k + 1, by omega, by go_num, fill_step hrow rfl, hbel.setCell (by show w.heap.size ≤ w.heap.size + 1; omega) _⟩
     case measure => simp [intOf]; omega
   · have hkr : n = k := by omega
     subst hkr
     go_wp2
     go_ret
     exact ⟨_, rfl, fill_done hrow (by unfold maxLen; omega), hbel⟩
end Go.Proofs.Ytlmflighkkgikaa
namespace Go.Proofs.Ytlmflighkkgikaa
structure Pure (s v : Nat) (H : List Key) (il : List (List Nat)) : Prop where
 key : ∀ h ∈ H, keyOk s h ∧ h.1.length ≤ 40 ∧ ∀ t ∈ h.1, t < v
 whole : ∀ p ∈ il, p ≠ [] ∧ p.length % s = 0 ∧ p.length ≤ 40 ∧ ∀ t ∈ p, t < v
 out : ∀ p ∈ il, ¬ heldBy s H (p, 0)
 order : il.Pairwise (fun a b => ¬ a <+: b)
 shut : ∀ p ∈ il, ∀ q, q ≠ [] → q.length % s = 0 → q <+: p → q ∈ il ∨ heldBy s H (q, 0)
def live (s : Nat) (H : List Key) (il : List (List Nat)) (k : Key) : Prop := heldBy s H k ∨ (k.2 = 0 ∧ k.1 ∈ il)
instance (s : Nat) (H : List Key) (il : List (List Nat)) (k : Key) : Decidable (live s H il k) := by unfold live; infer_instance
section
variable {s v : Nat} {H : List Key} {il : List (List Nat)}
theorem Pure.ok (h : Pure s v H il) : ∀ x ∈ H, keyOk s x := fun x hx => (h.key x hx).1
theorem Pure.nodup (h : Pure s v H il) : il.Nodup := h.order.imp (fun {a b} hab e => hab (by rw [e]; exact List.prefix_refl _))
theorem heldBy_ne {k : Key} (h : heldBy s H k) : k.1 ≠ [] := by
 obtain ⟨x, _, hne, _⟩ := h
 exact hne
theorem Pure.live_ne {k : Key} (h : Pure s v H il) (hk : live s H il k) : k.1 ≠ [] := by
 rcases hk with hk | ⟨_, hk⟩
 · exact heldBy_ne hk
 · exact (h.whole _ hk).1
theorem Pure.live_ok {k : Key} (h : Pure s v H il) (hk : live s H il k) : keyOk s k ∧ k.1.length ≤ 40 ∧ ∀ t ∈ k.1, t < v := by
 rcases hk with ⟨x, hx, _, rfl | ⟨h2, hm, hp⟩⟩ | ⟨h2, hk⟩
 · exact h.key _ hx
 · obtain ⟨_, q2, q3⟩ := h.key x hx
   exact ⟨⟨fun _ => hm, fun _ => h2⟩, Nat.le_trans hp.length_le q2, fun t ht => q3 t (hp.subset ht)⟩
 · obtain ⟨_, q1, q2, q3⟩ := h.whole _ hk
   exact ⟨⟨fun _ => q1, fun _ => h2⟩, q2, q3⟩
theorem Pure.live_on {k j : Key} (h : Pure s v H il) (hk : live s H il k) (hj : on s k j) : live s H il j := by
 rcases hk with ⟨x, hx, ho⟩ | ⟨h2, hk⟩
 · exact .inl ⟨x, hx, on_trans s x k j ho hj⟩
 · obtain ⟨hne, rfl | ⟨j2, jm, jp⟩⟩ := hj
   · exact .inr ⟨h2, hk⟩
   · have e : j = (j.1, 0) := Prod.ext rfl j2
     rcases h.shut _ hk j.1 hne jm jp with q | q
     · exact .inr ⟨j2, q⟩
     · left; rw [e]; exact q
theorem Pure.evict {p : List Nat} (h : Pure s v H (p :: il)) : Pure s v H il :=
 ⟨h.key, fun q hq => h.whole q (by simp [hq]), fun q hq => h.out q (by simp [hq]), (List.pairwise_cons.1 h.order).2, fun q hq r h1 h2 h3 => by
   rcases h.shut q (by simp [hq]) r h1 h2 h3 with q1 | q1
   · rcases List.mem_cons.1 q1 with rfl | q1
     · exact absurd h3 ((List.pairwise_cons.1 h.order).1 q hq)
     · exact .inl q1
   · exact .inr q1⟩
def notUp (f : List Nat) (il : List (List Nat)) : List (List Nat) := il.filter (fun p => ¬ p <+: f)
theorem mem_notUp (f : List Nat) (il : List (List Nat)) (p : List Nat) : p ∈ notUp f il ↔ p ∈ il ∧ ¬ p <+: f := by
 unfold notUp; rw [List.mem_filter]; simp
theorem Pure.use {k : Key} (h : Pure s v H il) (hf : k = ([], 0) ∨ live s H il k) : Pure s v (k :: H) (notUp k.1 il) := by
 have hfk : keyOk s k ∧ k.1.length ≤ 40 ∧ ∀ t ∈ k.1, t < v := by
   rcases hf with rfl | hf
   · exact ⟨by simp [keyOk], by simp, by simp⟩
   · exact h.live_ok hf
 refine ⟨fun x hx => ?_, fun p hp => h.whole p ((mem_notUp _ _ _).1 hp).1, fun p hp hh => ?_, h.order.filter _, fun p hp q h1 h2 h3 => ?_⟩
 · rcases List.mem_cons.1 hx with rfl | hx
   · exact hfk
   · exact h.key x hx
 · rw [mem_notUp] at hp
   rcases (heldBy_cons _ _ _ _).1 hh with ⟨hne, e | ⟨_, _, e⟩⟩ | hh
   · exact hp.2 (by rw [← e]; exact List.prefix_refl _)
   · exact hp.2 e
   · exact h.out p hp.1 hh
 · rw [mem_notUp] at hp
   rw [heldBy_cons, mem_notUp]
   by_cases hqf : q <+: k.1
   · exact .inr (.inl ⟨h1, .inr ⟨rfl, h2, hqf⟩⟩)
   · rcases h.shut p hp.1 q h1 h2 h3 with r | r
     · exact .inl ⟨r, hqf⟩
     · exact .inr (.inr r)
theorem Pure.back_held {k : Key} (h : Pure s v (k :: H) il) (hs : 1 ≤ s) (hk : heldBy s H k) : Pure s v (pred s k :: H) il := by
 have kk := h.key k (by simp)
 have key : ∀ j, heldBy s (k :: H) j ↔ heldBy s (pred s k :: H) j := fun j => by
   rw [heldBy_cons, heldBy_cons, on_step s k j hs kk.1]
   constructor
   · rintro ((⟨rfl, _⟩ | e) | e)
     · exact .inr hk
     · exact .inl e
     · exact .inr e
   · rintro (e | e)
     · exact .inl (.inr e)
     · exact .inr e
 refine ⟨fun x hx => ?_, h.whole, fun p hp hh => h.out p hp ((key _).2 hh), h.order, fun p hp q h1 h2 h3 => (h.shut p hp q h1 h2 h3).imp id (key _).1⟩
 rcases List.mem_cons.1 hx with rfl | hx
 · exact ⟨pred_ok s k hs, Nat.le_trans (by unfold pred; simp; omega) kk.2.1, fun t ht => kk.2.2 t (List.mem_of_mem_take ht)⟩
 · exact h.key x (by simp [hx])
theorem Pure.back_idle {p : List Nat} (h : Pure s v ((p, 0) :: H) il) (hs : 1 ≤ s) (hne : p ≠ []) (hk : ¬ heldBy s H (p, 0)) : Pure s v (pred s (p, 0) :: H) (il ++ [p]) := by
 have kk := h.key (p, 0) (by simp)
 have hm : p.length % s = 0 := kk.1.1 rfl
 refine ⟨fun x hx => ?_, fun q hq => ?_, fun q hq hh => ?_, ?_, fun q hq r h1 h2 h3 => ?_⟩
 · rcases List.mem_cons.1 hx with rfl | hx
   · exact ⟨pred_ok s _ hs, Nat.le_trans (by unfold pred; simp; omega) kk.2.1, fun t ht => kk.2.2 t (List.mem_of_mem_take ht)⟩
   · exact h.key x (by simp [hx])
 · rcases List.mem_append.1 hq with hq | hq
   · exact h.whole q hq
   · rw [List.mem_singleton] at hq; subst hq; exact ⟨hne, hm, kk.2⟩
 · rcases List.mem_append.1 hq with hq | hq
   · refine h.out q hq ?_
     rw [heldBy_cons] at hh ⊢
     rw [on_step s _ _ hs kk.1]
     exact hh.elim (fun e => .inl (.inr e)) .inr
   · rw [List.mem_singleton] at hq; subst hq
     rcases (heldBy_cons _ _ _ _).1 hh with hh | hh
     · exact not_on_pred s (q, 0) hs hne hh
     · exact hk hh
 · rw [List.pairwise_append]
   refine ⟨h.order, by simp, fun a ha b hb hp => ?_⟩
   rw [List.mem_singleton] at hb; subst hb
   obtain ⟨a1, a2, _⟩ := h.whole a ha
   exact h.out a ha ((heldBy_cons _ _ _ _).2 (.inl ⟨a1, .inr ⟨rfl, a2, hp⟩⟩))
 · rw [heldBy_cons, List.mem_append, List.mem_singleton]
   rcases List.mem_append.1 hq with hq | hq
   · rcases h.shut q hq r h1 h2 h3 with e | e
     · exact .inl (.inl e)
     · rcases (heldBy_cons _ _ _ _).1 e with e | e
       · rcases (on_step s _ _ hs kk.1).1 e with ⟨e, _⟩ | e
         · injection e with e; exact .inl (.inr e)
         · exact .inr (.inl e)
       · exact .inr (.inr e)
   · rw [List.mem_singleton] at hq; subst hq
     by_cases e : r = q
     · exact .inl (.inr e)
     · have hlt : r.length < q.length := by
         rcases Nat.lt_or_ge r.length q.length with h' | h'
         · exact h'
         · exact absurd (h3.eq_of_length (by have := h3.length_le; omega)) e
       exact .inr (.inl ⟨h1, .inr ⟨rfl, h2, pred_far s (q, 0) (r, 0) hs h2 h3 hlt⟩⟩)
theorem Pure.back_tail {k : Key} (h : Pure s v (k :: H) il) (hs : 1 ≤ s) (ht : k.2 ≠ 0) : Pure s v (pred s k :: H) il := by
 have kk := h.key k (by simp)
 refine ⟨fun x hx => ?_, h.whole, fun p hp hh => h.out p hp ?_, h.order, fun p hp q h1 h2 h3 => (h.shut p hp q h1 h2 h3).imp id (fun e => ?_)⟩
 · rcases List.mem_cons.1 hx with rfl | hx
   · exact ⟨pred_ok s k hs, Nat.le_trans (by unfold pred; simp; omega) kk.2.1, fun t ht => kk.2.2 t (List.mem_of_mem_take ht)⟩
   · exact h.key x (by simp [hx])
 · rw [heldBy_cons] at hh ⊢
   rw [on_step s _ _ hs kk.1]
   exact hh.elim (fun e => .inl (.inr e)) .inr
 · rw [heldBy_cons] at e ⊢
   rw [on_step s _ _ hs kk.1] at e
   rcases e with (⟨e, _⟩ | e) | e
   · rw [← e] at ht; exact absurd rfl ht
   · exact .inl e
   · exact .inr e
theorem Pure.gone (h : Pure s v (([], 0) :: H) il) : Pure s v H il :=
 ⟨fun x hx => h.key x (by simp [hx]), h.whole, fun p hp hh => h.out p hp ((heldBy_cons _ _ _ _).2 (.inr hh)), h.order, fun p hp q h1 h2 h3 => (h.shut p hp q h1 h2 h3).imp id (fun e => ((heldBy_cons _ _ _ _).1 e).elim (fun e => absurd e (on_nil s _ 0)) id)⟩
theorem Pure.fill {k : Key} (h : Pure s v (pred s k :: H) il) (hs : 1 ≤ s) (hk : keyOk s k ∧ k.1.length ≤ 40 ∧ ∀ t ∈ k.1, t < v) (hn : ¬ live s (pred s k :: H) il k) : Pure s v (k :: H) il := by
 refine ⟨fun x hx => ?_, h.whole, fun p hp hh => ?_, h.order, fun p hp q h1 h2 h3 => (h.shut p hp q h1 h2 h3).imp id (fun e => ?_)⟩
 · rcases List.mem_cons.1 hx with rfl | hx
   · exact hk
   · exact h.key x (by simp [hx])
 · rw [heldBy_cons, on_step s _ _ hs hk.1] at hh
   rcases hh with (⟨e, _⟩ | e) | e
   · exact hn (.inr ⟨by rw [← e], by rw [← e]; exact hp⟩)
   · exact h.out p hp ((heldBy_cons _ _ _ _).2 (.inl e))
   · exact h.out p hp ((heldBy_cons _ _ _ _).2 (.inr e))
 · rw [heldBy_cons] at e ⊢
   rw [on_step s _ _ hs hk.1]
   exact e.elim (fun e => .inl (.inr e)) .inr
theorem Pure.perm {H' : List Key} (h : Pure s v H il) (hm : ∀ x, x ∈ H ↔ x ∈ H') : Pure s v H' il := by
 have key : ∀ k, heldBy s H k ↔ heldBy s H' k := fun k => ⟨fun ⟨x, hx, e⟩ => ⟨x, (hm x).1 hx, e⟩, fun ⟨x, hx, e⟩ => ⟨x, (hm x).2 hx, e⟩⟩
 exact ⟨fun x hx => h.key x ((hm x).2 hx), h.whole, fun p hp hh => h.out p hp ((key _).2 hh), h.order, fun p hp q h1 h2 h3 => (h.shut p hp q h1 h2 h3).imp id (key _).1⟩
theorem live_use {k : Key} (h : Pure s v H il) (hf : k = ([], 0) ∨ live s H il k) (j : Key) : live s (k :: H) (notUp k.1 il) j ↔ live s H il j := by
 unfold live
 rw [heldBy_cons, mem_notUp]
 constructor
 · rintro ((h1 | h1) | ⟨h1, h2, _⟩)
   · rcases hf with rfl | hf
     · exact absurd h1 (on_nil s j 0)
     · exact h.live_on hf h1
   · exact .inl h1
   · exact .inr ⟨h1, h2⟩
 · rintro (h1 | ⟨h1, h2⟩)
   · exact .inl (.inr h1)
   · by_cases hp : j.1 <+: k.1
     · obtain ⟨q1, q2, _⟩ := h.whole _ h2
       exact .inl (.inl ⟨q1, .inr ⟨h1, q2, hp⟩⟩)
     · exact .inr ⟨h1, h2, hp⟩
theorem filter_split {α : Type} (p : α → Bool) (l : List α) : (l.filter p).length + (l.filter (fun x => !p x)).length = l.length := by
 induction l with
 | nil => rfl
 | cons a l ih =>
   simp only [List.filter_cons]
   cases p a <;> simp <;> omega
theorem nUsed_use {k : Key} (hs : 1 ≤ s) (h : Pure s v H il) (hf : k = ([], 0) ∨ live s H il k) : nUsed s (k :: H) + (notUp k.1 il).length = nUsed s H + il.length := by
 have h' := h.use hf
 have e1 : nUsed s (k :: H) = (usedK s H ++ (il.filter (fun p => decide (p <+: k.1))).map (fun p => (p, 0))).length := by
   refine nUsed_eq s _ _ hs h'.ok ?_ (fun j => ?_)
   · rw [List.nodup_append]
     refine ⟨nodup_dd _, ?_, fun a ha b hb e => ?_⟩
     · have : (il.filter (fun p => decide (p <+: k.1))).Nodup := h.nodup.filter _
       exact (List.pairwise_map.2 (this.imp (fun hab e => hab (by injection e))))
     · subst e
       obtain ⟨p, hp, rfl⟩ := List.mem_map.1 hb
       rw [mem_usedK s H _ hs h.ok] at ha
       exact h.out p (List.mem_filter.1 hp).1 ha
   · rw [List.mem_append, mem_usedK s H _ hs h.ok, List.mem_map, heldBy_cons]
     constructor
     · rintro (h1 | ⟨p, hp, rfl⟩)
       · exact .inr h1
       · obtain ⟨hp1, hp2⟩ := List.mem_filter.1 hp
         obtain ⟨q1, q2, _⟩ := h.whole _ hp1
         exact .inl ⟨q1, .inr ⟨rfl, q2, by simpa using hp2⟩⟩
     · rintro (h1 | h1)
       · have hl : live s H il j := by
           rcases hf with rfl | hf
           · exact absurd h1 (on_nil s j 0)
           · exact h.live_on hf h1
         rcases hl with hl | ⟨hl1, hl2⟩
         · exact .inl hl
         · refine .inr ⟨j.1, List.mem_filter.2 ⟨hl2, ?_⟩, Prod.ext rfl hl1.symm⟩
           obtain ⟨_, e | ⟨_, _, e⟩⟩ := h1
           · rw [e]; simp
           · simpa using e
       · exact .inl h1
 rw [e1, List.length_append, List.length_map]
 have e2 := filter_split (fun p : List Nat => decide (p <+: k.1)) il
 have e3 : (notUp k.1 il).length = (il.filter (fun x => !decide (x <+: k.1))).length := by
   unfold notUp
   congr 1
   apply List.filter_congr
   intro x _
   by_cases e : x <+: k.1 <;> simp [e]
 unfold nUsed
 omega
def users (s : Nat) (H : List Key) (k : Key) : Nat := H.countP (fun h => decide (on s h k))
theorem users_cons (s : Nat) (h : Key) (H : List Key) (k : Key) : users s (h :: H) k = users s H k + if on s h k then 1 else 0 := by
 unfold users; rw [List.countP_cons]; simp
theorem users_pos (s : Nat) (H : List Key) (k : Key) : 0 < users s H k ↔ heldBy s H k := by
 unfold users heldBy; rw [List.countP_pos_iff]; simp
theorem users_zero (s : Nat) (H : List Key) (k : Key) : users s H k = 0 ↔ ¬ heldBy s H k := by
 rw [← users_pos]; omega
theorem users_le (s : Nat) (H : List Key) (k : Key) : users s H k ≤ H.length := by unfold users; exact List.countP_le_length
theorem users_perm (s : Nat) {H H' : List Key} (hp : H.Perm H') (k : Key) : users s H k = users s H' k := by unfold users; exact hp.countP_eq _
theorem users_step (s : Nat) (h : Key) (H : List Key) (k : Key) (hs : 1 ≤ s) (hh : keyOk s h) (hne : h.1 ≠ []) : users s (h :: H) k = users s (pred s h :: H) k + if k = h then 1 else 0 := by
 rw [users_cons, users_cons]
 by_cases e : k = h
 · subst e
   rw [if_pos (on_self s k hne), if_neg (not_on_pred s k hs hne), if_pos rfl]
 · have : on s h k ↔ on s (pred s h) k := by
     rw [on_step s h k hs hh]
     exact ⟨fun h' => h'.elim (fun h'' => absurd h''.1 e) id, .inr⟩
   rw [if_neg e]
   simp only [this, Nat.add_zero]
def leftOf (s : Nat) (H : List Key) (k : Key) : List (List Nat) := (chain s k).reverse.filterMap fun x => if x.2 = 0 ∧ ¬ heldBy s H x then some x.1 else none
theorem leftOf_nil (s : Nat) (H : List Key) (k : Key) (hs : 1 ≤ s) (e : k.1 = []) : leftOf s H k = [] := by unfold leftOf; rw [chain_nil s k hs e]; rfl
theorem leftOf_step (s : Nat) (H : List Key) (k : Key) (hs : 1 ≤ s) (hk : keyOk s k) (hne : k.1 ≠ []) : leftOf s H k = (if k.2 = 0 ∧ ¬ heldBy s H k then [k.1] else []) ++ leftOf s H (pred s k) := by
 unfold leftOf
 rw [chain_step s k hs hk hne, List.reverse_append, List.filterMap_append]
 congr 1
 simp only [List.reverse_cons, List.reverse_nil, List.nil_append, List.filterMap_cons, List.filterMap_nil]
 split <;> simp_all
theorem live_back_held {j : Key} (hs : 1 ≤ s) (hj : keyOk s j) (hh : heldBy s H j) (k : Key) : live s (pred s j :: H) il k ↔ live s (j :: H) il k := by
 unfold live
 rw [heldBy_cons, heldBy_cons, on_step s j k hs hj]
 constructor
 · rintro ((h1 | h1) | h1)
   · exact .inl (.inl (.inr h1))
   · exact .inl (.inr h1)
   · exact .inr h1
 · rintro (((⟨rfl, _⟩ | h1) | h1) | h1)
   · exact .inl (.inr hh)
   · exact .inl (.inl h1)
   · exact .inl (.inr h1)
   · exact .inr h1
theorem live_back_idle {p : List Nat} (hs : 1 ≤ s) (hj : keyOk s (p, 0)) (hne : p ≠ []) (k : Key) : live s (pred s (p, 0) :: H) (il ++ [p]) k ↔ live s ((p, 0) :: H) il k := by
 unfold live
 rw [heldBy_cons, heldBy_cons, on_step s _ k hs hj, List.mem_append, List.mem_singleton]
 constructor
 · rintro ((h1 | h1) | ⟨h1, h2 | h2⟩)
   · exact .inl (.inl (.inr h1))
   · exact .inl (.inr h1)
   · exact .inr ⟨h1, h2⟩
   · exact .inl (.inl (.inl ⟨Prod.ext h2 h1, hne⟩))
 · rintro (((⟨rfl, _⟩ | h1) | h1) | ⟨h1, h2⟩)
   · exact .inr ⟨rfl, .inr rfl⟩
   · exact .inl (.inl h1)
   · exact .inl (.inr h1)
   · exact .inr ⟨h1, .inl h2⟩
theorem live_back_tail {j : Key} (hs : 1 ≤ s) (hj : keyOk s j) (hne : j.1 ≠ []) (ht : j.2 ≠ 0) (hh : ¬ heldBy s H j) (k : Key) : live s (pred s j :: H) il k ↔ live s (j :: H) il k ∧ k ≠ j := by
 unfold live
 rw [heldBy_cons, heldBy_cons, on_step s j k hs hj]
 constructor
 · rintro ((h1 | h1) | h1)
   · exact ⟨.inl (.inl (.inr h1)), fun e => not_on_pred s j hs hne (by rw [← e]; rw [e] at h1; rw [e]; exact h1)⟩
   · exact ⟨.inl (.inr h1), fun e => hh (by rw [← e]; exact h1)⟩
   · exact ⟨.inr h1, fun e => ht (by rw [← e]; exact h1.1)⟩
 · rintro ⟨((⟨rfl, _⟩ | h1) | h1) | h1, h2⟩
   · exact absurd rfl h2
   · exact .inl (.inl h1)
   · exact .inl (.inr h1)
   · exact .inr h1
theorem live_gone (k : Key) : live s (([], 0) :: H) il k ↔ live s H il k := by
 unfold live
 rw [heldBy_cons]
 exact ⟨fun h => h.elim (fun h => h.elim (fun e => absurd e (on_nil s k 0)) .inl) .inr, fun h => h.elim (fun h => .inl (.inr h)) .inr⟩
end
end Go.Proofs.Ytlmflighkkgikaa
