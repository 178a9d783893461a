import Derived.Test.YtlmflighkkgikaaP52

namespace Go.Proofs.Ytlmflighkkgikaa
open Go.RowKit
def sumB (s : Nat) (L : List (Int × Key)) : Nat → Nat
 | 0 => 0
 | k + 1 => sumB s L k + nbOf s (lenO (tkM L k))
theorem nb_zero {s : Nat} (hs : 1 ≤ s) : nbOf s 0 = 0 := by unfold nbOf; exact Nat.div_eq_of_lt (by omega)
theorem sumB_nil {s : Nat} (hs : 1 ≤ s) (n : Nat) : sumB s [] n = 0 := by
 induction n with
 | zero => rfl
 | succ n ih => show sumB s [] n + nbOf s (lenO none) = 0; rw [ih, Nat.zero_add]; exact nb_zero hs
theorem sumB_cons {s : Nat} (hs : 1 ≤ s) {x : Int × Key} {L : List (Int × Key)} (h0 : 0 ≤ x.1) (hx : tkM L x.1 = none) (n : Nat) : sumB s (x :: L) n = sumB s L n + if x.1 < n then nbOf s x.2.1.length else 0 := by
 induction n with
 | zero => rw [if_neg (by omega)]; rfl
 | succ n ih =>
   show sumB s (x :: L) n + nbOf s (lenO (tkM (x :: L) n)) = sumB s L n + nbOf s (lenO (tkM L n)) + _
   rw [ih]
   have e : tkM (x :: L) n = if x.1 = n then some x.2.1 else tkM L n := by
     unfold tkM
     obtain ⟨a, b⟩ := x
     rw [assoc_cons]
     split <;> rfl
   rw [e]
   by_cases h : x.1 = n
   · rw [if_pos h, if_neg (by omega), if_pos (by omega), ← h, hx]
     show _ + 0 + nbOf s x.2.1.length = _ + nbOf s 0 + _
     rw [nb_zero hs]
   · rw [if_neg h]
     by_cases h2 : x.1 < n
     · rw [if_pos h2, if_pos (by omega)]; omega
     · rw [if_neg h2, if_neg (by omega)]; omega
theorem sum_all {s : Nat} (hs : 1 ≤ s) {L : List (Int × Key)} (hi : idsK L) (hn : (L.map (·.1)).Nodup) : sumB s L 5 = nbSum s (L.map (·.2)) := by
 induction L with
 | nil => rw [sumB_nil hs]; rfl
 | cons x L ih =>
   rw [List.map_cons, List.nodup_cons] at hn
   have hx := hi x (by simp)
   rw [sumB_cons hs hx.1 (tkM_none.2 (assoc_none.2 (fun y hy e => hn.1 (List.mem_map.2 ⟨y, hy, e⟩)))), ih (fun y hy => hi y (by simp [hy])) hn.2, if_pos (by omega)]
   unfold nbSum
   simp
   omega
def nbI (s : Nat) (x : Int) : Int := nbOf s x.toNat
theorem nbI_cast (s n : Nat) : nbI s n = nbOf s n := by unfold nbI; rw [Int.toNat_natCast]
theorem nbI_add (s n m : Nat) : nbI s ((n : Int) + m) = nbOf s (n + m) := by unfold nbI; congr 2
def sumA (s : Nat) (L : List (Int × Key)) (a : ActD) : Int :=
 if pickI a.K 10 ≤ 2 then sumB s L 5 + nbOf s (min a.n 9)
 else if pickI a.K 10 ≤ 4 then sumB s L 5 - nbOf s (lenO (tkM L (pickI a.A 5))) + nbOf s (lenO (tkM L (pickI a.A 5)) + min a.n 4)
 else if pickI a.K 10 ≤ 6 then sumB s L 5 - nbOf s (lenO (tkM L (pickI a.A 5))) + nbOf s (lenO (tkM L (pickI a.A 5)) + (pickI a.B 5).toNat)
 else sumB s L 5
theorem sumA_eq (s : Nat) (L : List (Int × Key)) (a : ActD) : sumA s L a =
 if pickI a.K 10 ≤ 2 then (sumB s L 5 : Int) + nbOf s (min a.n 9)
 else if pickI a.K 10 ≤ 4 then (sumB s L 5 : Int) - nbOf s (lenO (tkM L (pickI a.A 5))) + nbOf s (lenO (tkM L (pickI a.A 5)) + min a.n 4)
 else if pickI a.K 10 ≤ 6 then (sumB s L 5 : Int) - nbOf s (lenO (tkM L (pickI a.A 5))) + nbOf s (lenO (tkM L (pickI a.A 5)) + (pickI a.B 5).toNat)
 else (sumB s L 5 : Int) := rfl
theorem full_told {B0 : Nat} {w : World} {p : HD} {a : ActD} (h : HeldK B0 w p) (hi : idsK p.L) (hf : FullK p a) : (p.c.blocks : Int) < sumA p.c.slots p.L a ∧ (2 < pickI a.K 10 → codeO (tkM p.L (pickI a.A 5)) = 0) := by
 have hs := h.cok.slots.1
 have e := sum_all hs hi h.held.ids
 unfold sumA
 rcases hf with ⟨hk, hb⟩ | ⟨hk1, hk2, k0, L1, L2, eL, hx, hb⟩
 · rw [if_pos hk, e]
   exact ⟨by omega, fun q => by omega⟩
 · have et : tkM p.L (pickI a.A 5) = some k0.1 := by rw [eL]; exact tkM_at hx k0
   have e2 : nbSum p.c.slots (p.L.map (·.2)) = nbSum p.c.slots ((L1 ++ L2).map (·.2)) + nbOf p.c.slots k0.1.length := by
     rw [eL]
     unfold nbSum
     simp
     omega
   rw [if_neg (by omega), et, e, e2]
   refine ⟨?_, fun _ => rfl⟩
   show (p.c.blocks : Int) < if pickI a.K 10 ≤ 4 then _ - (nbOf p.c.slots k0.1.length : Int) + nbOf p.c.slots (k0.1.length + min a.n 4) else if pickI a.K 10 ≤ 6 then _ - (nbOf p.c.slots k0.1.length : Int) + nbOf p.c.slots (k0.1.length + (pickI a.B 5).toNat) else _
   by_cases h4 : pickI a.K 10 ≤ 4
   · rw [if_pos h4] at hb ⊢
     omega
   · rw [if_neg h4] at hb ⊢
     rw [if_pos hk2]
     omega
theorem nb_le40 {B0 : Nat} {w : World} {p : HD} (h : HeldK B0 w p) (k : Int) : lenO (tkM p.L k) ≤ 40 := by
 cases e : tkM p.L k with
 | none => exact Nat.zero_le _
 | some t => exact (h.toks e).2.1
theorem sumB_le {B0 : Nat} {w : World} {p : HD} (h : HeldK B0 w p) (n : Nat) : sumB p.c.slots p.L n ≤ n * 40 := by
 induction n with
 | zero => exact Nat.zero_le _
 | succ n ih =>
   show sumB p.c.slots p.L n + nbOf p.c.slots (lenO (tkM p.L n)) ≤ _
   have h1 := nb_le40 h n
   have h2 := nbOf_le (s := p.c.slots) (n := lenO (tkM p.L n)) h.cok.slots.1
   omega
def idsFrom (k : Nat) (L : List (Int × Key)) : Prop := ∀ x ∈ L, (k : Int) ≤ x.1 ∧ x.1 < 5
section
variable {B0 : Nat} {wb w : World} {X : Nat} {c : Cfg} {p : HD}
theorem one_free (h : OneK B0 wb w X c p) (k : Nat) (hk : k < 5) (hf : idsFrom k p.L) :
   Calls Try.prog 19 #[.pointer (some ⟨X, 0, none⟩), .int .i64 k] w fun e w' => ∃ code : Nat, e = .returned (.int .i64 code) ∧ ∃ p', OneK B0 wb w' X c p' ∧ idsFrom (k + 1) p'.L := by
 have hc := kfree h.hp h.size k (by omega)
 rw [h.X] at hc
 refine hc.mono ?_
 rintro e w' ⟨code, rfl, p', hp', ha, ⟨hx, _, hst⟩ | ⟨k0, L1, L2, eL, hx, _, eL', _⟩⟩
 · refine ⟨code, rfl, p', h.acted hp' ha (by rw [hst.1]; exact h.ip), fun x hx' => ?_⟩
   rw [hst.1] at hx'
   have h1 := hf x hx'
   have h2 := assoc_none.1 hx x hx'
   omega
 · have hnd := h.hp.held.ids
   have hip := h.ip
   rw [eL] at hnd hip
   refine ⟨code, rfl, p', h.acted hp' ha (by rw [eL']; exact idsK_del hip), fun x hx' => ?_⟩
   rw [eL'] at hx'
   have hm : x ∈ p.L := by rw [eL]; rcases List.mem_append.1 hx' with q | q <;> simp [q]
   have h1 := hf x hm
   have h2 : x.1 ≠ k := fun e => by
     rw [List.map_append, List.map_cons] at hnd
     rcases List.mem_append.1 hx' with q | q
     · exact assoc_none.1 hx x q e
     · have := (List.nodup_append.1 hnd).2.1
       rw [List.nodup_cons] at this
       exact this.1 (List.mem_map.2 ⟨x, q, e⟩)
   omega
theorem one_tokens (h : OneK B0 wb w X c p) (k : Int) (hk : 0 ≤ k ∧ k < 5) :
   Calls Try.prog 26 #[.pointer (some ⟨X, 0, none⟩), .int .i64 k] w fun e w' => ∃ a cap, e = .returned (.tuple #[.slice a (lenO (tkM p.L k)) cap, .int .i64 (codeO (tkM p.L k))]) ∧ IntsT w' (.slice a (lenO (tkM p.L k)) cap) (lenO (tkM p.L k)) (tkO (tkM p.L k)) ∧ Below w.heap.size w w' := by
 have := ktokens h.hp k (by omega)
 rw [h.X] at this
 refine this.mono ?_
 rintro e w' ⟨r, rfl, hi, hb⟩
 obtain ⟨a, cap, rfl, _⟩ := id hi
 exact ⟨a, cap, rfl, hi, hb⟩
theorem one_evict_all (h : OneK B0 wb w X c p) (hL : p.L = []) :
   Calls Try.prog 27 #[.pointer (some ⟨X, 0, none⟩), .int .i64 32] w fun e w' => ∃ m : Nat, e = .returned (.int .i64 m) ∧ ∃ p', OneK B0 wb w' X c p' ∧ p'.L = [] ∧ p'.il = [] := by
 have hc := kevict h.hp h.size 32
 rw [h.X] at hc
 refine hc.mono ?_
 rintro e w' ⟨rfl, p', hp', ha, eL, eI⟩
 refine ⟨_, rfl, p', h.acted hp' ha (by rw [eL]; exact h.ip), eL.trans hL, ?_⟩
 have h1 := h.hp.pure0.2.1
 have h2 := h.hp.cok.blocks.2
 rw [eI]
 unfold evN
 exact List.drop_eq_nil_of_le (by have : (32 : Int).toNat = 32 := rfl; omega)
theorem one_create_all (h : OneK B0 wb w X c p) (hL : p.L = []) {n : Nat} {f : Nat → Int} {vt : Value} (ht : Ints w vt n f) (h1 : 1 ≤ n) (hn : n ≤ 40) (hb : n ≤ c.blocks * c.slots) (htok : ∀ j, j < n → ¬ badTok c.vocab (f j)) :
   Calls Try.prog 13 #[.pointer (some ⟨X, 0, none⟩), .int .i64 0, vt] w fun e w' => e = .returned (.int .i64 0) ∧ KeepT 3 w w' ∧ ∃ p', OneK B0 wb w' X c p' ∧ tkM p'.L 0 = some (natsOf n f) := by
 have hs := h.hp.cok.slots
 have hcr := kcreate h.hp h.size 0 n f vt (by omega) ht
 have hcode : createS p.c p.L p.il 0 n f = 0 := by
   unfold createS
   rw [hL, assoc_nil, if_neg (by simp), if_neg (by simp; omega), if_neg (by rw [h.c]; exact fun ⟨j, hj, q⟩ => htok j hj q), if_neg (by omega), if_neg]
   intro hf
   have h3 := h.hp.full_new _ (by rw [hL]; exact hf)
   rw [hL, natsOf_len, h.c] at h3
   rw [h.c] at hs
   have h4 : nbOf c.slots n ≤ c.blocks := by
     refine Nat.le_of_not_lt (fun q => ?_)
     have := (nbOf_lt (s := c.slots) (n := n) (k := c.blocks) hs.1).1 q
     omega
   simp [nbSum] at h3
   omega
 rw [hcode, h.X] at hcr
 refine hcr.mono ?_
 rintro e w' ⟨rfl, p', hp', ha, ⟨q1, _⟩ | ⟨_, tn, _, eL, _⟩⟩
 · rw [hcode] at q1; exact absurd rfl q1
 · rw [hL, List.nil_append] at eL
   refine ⟨rfl, ha.moves.kept _ (by unfold mutT; decide), p', h.acted hp' ha (by rw [eL]; intro x hx; rw [List.mem_singleton.1 hx]; exact ⟨Int.le_refl 0, (by omega : (0 : Int) < 5)⟩), ?_⟩
   rw [eL]
   unfold tkM
   rw [assoc_cons, if_pos rfl]
   rfl
end
end Go.Proofs.Ytlmflighkkgikaa
