import Derived.Test.YtlmflighkkgikaaP46
import Derived.Test.YtlmflighkkgikaaP49

namespace Go.Proofs.Ytlmflighkkgikaa
open Go.RowKit
section
variable {B0 : Nat} {wb w : World} {X : Nat} {c : Cfg} {p : HD}
theorem s_create (h : OneK B0 wb w X c p) (id : Int) (hid : 0 ≤ id ∧ id < 5) {n : Nat} {f : Nat → Int} {vt : Value} (ht : Ints w vt n f) (h1 : 1 ≤ n) (hn : n ≤ 40) (htok : ∀ j, j < n → ¬ badTok c.vocab (f j)) (hno : assoc p.L id = none) (hlen : p.L.length < 8) (hnf : ¬ fullS p.c ([], 0) (p.L.map (·.2)) p.il (natsOf n f)) :
   Calls Try.prog 13 #[.pointer (some ⟨X, 0, none⟩), .int .i64 id, vt] w fun e w' => e = .returned (.int .i64 0) ∧ (∀ e, ¬ mutT e → KeepT e w w') ∧ ∃ p' tn, OneK B0 wb w' X c p' ∧ FreshT p.L tn ∧ p'.L = p.L ++ [(id, endKey c.slots (natsOf n f) tn)] ∧ p'.il = ilS p.c ([], 0) (p.L.map (·.2)) p.il (natsOf n f) := by
 have hcr := kcreate h.hp h.size id n f vt (by omega) ht
 have hcode : createS p.c p.L p.il id n f = 0 := by
   unfold createS
   rw [hno, if_neg (by simp), if_neg (by omega), if_neg (by rw [h.c]; exact fun ⟨j, hj, q⟩ => htok j hj q), if_neg (by omega), if_neg hnf]
 rw [hcode, h.X] at hcr
 refine hcr.mono ?_
 rintro e w' ⟨rfl, p', hp', ha, ⟨q1, _⟩ | ⟨_, tn, htn, eL, eI⟩⟩
 · rw [hcode] at q1; exact absurd rfl q1
 · rw [h.c] at eL
   exact ⟨rfl, ha.moves.kept, p', tn, h.acted hp' ha (by rw [eL]; exact idsK_snoc h.ip hid _), htn, eL, eI⟩
theorem s_free (h : OneK B0 wb w X c p) (id : Int) (hid : 0 ≤ id ∧ id < 5) {k0 : Key} {L1 L2 : List (Int × Key)} (eL : p.L = L1 ++ (id, k0) :: L2) (hx : assoc L1 id = none) :
   Calls Try.prog 19 #[.pointer (some ⟨X, 0, none⟩), .int .i64 id] w fun e w' => e = .returned (.int .i64 0) ∧ (∀ e, ¬ mutT e → KeepT e w w') ∧ ∃ p', OneK B0 wb w' X c p' ∧ p'.L = L1 ++ L2 ∧ p'.il = p.il ++ leftOf c.slots ((L1 ++ L2).map (·.2)) k0 := by
 have hk : assoc p.L id = some k0 := by rw [eL, assoc_append, hx, assoc_cons, if_pos rfl]; rfl
 have hh := h.hp.held
 rw [eL] at hh
 have := hfree_some p.F (fun _ => True) p.g p.c h.hp.cok L1 L2 p.il id k0 w hh (by omega) (by rw [← eL]; exact hk)
 rw [h.X] at this
 refine this.mono ?_
 rintro e w' ⟨rfl, hm, hh'⟩
 obtain ⟨p', a, b, e1, e2⟩ := h.hp.acted h.size hm hh'
 rw [h.c] at e2
 have hip := h.ip
 rw [eL] at hip
 exact ⟨rfl, b.moves.kept, p', h.acted a b (by rw [e1]; exact idsK_del hip), e1, e2⟩
theorem s_stats (h : OneK B0 wb w X c p) {i u : Nat} {fa ia ua : Int} (hi : p.il.length = i) (hu : nUsed c.slots (p.L.map (·.2)) = u) (h32 : c.blocks = 32) (hfa : ((32 - i - u : Nat) : Int) = fa) (hia : (i : Int) = ia) (hua : (u : Int) = ua) :
   Calls Try.prog 18 #[.pointer (some ⟨X, 0, none⟩)] w fun e w' => e = .returned (.agg #[.int .i64 fa, .int .i64 ia, .int .i64 ua]) ∧ Below w.heap.size w w' := by
 have := kstats h.hp
 rw [h.X, h.c, hu] at this
 unfold freeS at this
 rw [hu, h32, hi] at this
 subst hfa hia hua
 exact this
theorem s_room_first (h : OneK B0 wb w X c p) (eL : p.L = []) (T : List Nat) (hle : nbOf c.slots T.length ≤ c.blocks) : ¬ fullS p.c ([], 0) (p.L.map (·.2)) p.il T := fun hf => by
 have := h.hp.full_new _ hf
 rw [eL, h.c] at this
 simp [nbSum] at this
 omega
theorem s_room_new (h : OneK B0 wb w X c p) {id : Int} {k1 : Key} (eL : p.L = [(id, k1)]) (T P : List Nat) (h1 : P <+: k1.1) (h2 : P <+: T) (hle : nbOf c.slots k1.1.length + nbOf c.slots T.length ≤ c.blocks + P.length / c.slots) : ¬ fullS p.c ([], 0) (p.L.map (·.2)) p.il T := fun hf => by
 obtain ⟨g1, g2, _⟩ := h.hp.pure0
 have hs := h.hp.cok.slots.1
 have hone : p.L.map (·.2) = [k1] := by rw [eL]; rfl
 have hk1 : keyOk p.c.slots k1 := g1.ok k1 (by rw [hone]; simp)
 have := full_share hs (pure_come g1) (by rw [nUsed_nil p.c.slots _ 0 hs (fun x hx => g1.ok x hx) rfl]; exact g2) (List.nil_prefix) (h := k1) (by rw [hone]; simp) h1 h2 hf
 rw [hone, nUsed_one hs k1 hk1, h.c] at this
 omega
theorem s_again (h : OneK B0 wb w X c p) (eL : p.L = []) (T : List Nat) (hall : ∀ n, 0 < n → n % c.slots = 0 → n ≤ T.length → T.take n ∈ p.il) (hroom : p.il.length + 1 ≤ c.blocks) : (ilS p.c ([], 0) (p.L.map (·.2)) p.il T).length + T.length / c.slots = p.il.length := by
 obtain ⟨g1, _, _⟩ := h.hp.pure0
 rw [eL] at g1 ⊢
 rw [h.c] at g1 ⊢
 have hs := h.hp.cok.slots.1
 rw [h.c] at hs
 exact ils_again hs g1 hall hroom
end
end Go.Proofs.Ytlmflighkkgikaa
