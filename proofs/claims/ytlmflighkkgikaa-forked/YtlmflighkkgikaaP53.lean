import Derived.Test.YtlmflighkkgikaaP45
import Derived.Test.YtlmflighkkgikaaP51
import Derived.Test.YtlmflighkkgikaaP52

namespace Go.Proofs.Ytlmflighkkgikaa
open Go.RowKit
structure DuoG (B0 : Nat) (wb w : World) (X Y : Nat) (c : Cfg) (p q : HD) : Prop where
 hp : HeldK B0 w p
 hq : HeldK B0 w q
 ap : ∀ k, p.S k → ¬ q.S k
 bel : Below B0 wb w
 X : p.g.X = X
 Y : q.g.X = Y
 cp : p.c = c
 cq : q.c = c
 B : B0 ≤ wb.heap.size
section
variable {B0 : Nat} {wb w : World} {X Y : Nat} {c : Cfg} {p q : HD}
theorem DuoG.size (h : DuoG B0 wb w X Y c p q) : B0 ≤ w.heap.size := Nat.le_trans h.B h.bel.size
theorem DuoG.below {w' : World} (h : DuoG B0 wb w X Y c p q) (hb : Below w.heap.size w w') : DuoG B0 wb w' X Y c p q :=
 ⟨h.hp.below hb, h.hq.below hb, h.ap, h.bel.trans (hb.mono h.size), h.X, h.Y, h.cp, h.cq, h.B⟩
theorem DuoG.flip (h : DuoG B0 wb w X Y c p q) : DuoG B0 wb w Y X c q p :=
 ⟨h.hq, h.hp, fun k hk hk' => h.ap k hk' hk, h.bel, h.Y, h.X, h.cq, h.cp, h.B⟩
theorem DuoG.acted {w' : World} {p' : HD} (h : DuoG B0 wb w X Y c p q) (hp' : HeldK B0 w' p') (ha : ActedK w w' p p') : DuoG B0 wb w' X Y c p' q := by
 obtain ⟨hq', hap⟩ := apart_symm h.hq ha h.ap
 exact ⟨hp', hq', hap, h.bel.trans (h.hp.bel ha h.size), ha.g ▸ h.X, h.Y, ha.c.trans h.cp, h.cq, h.B⟩
theorem g_create (h : DuoG B0 wb w X Y c p q) (id : Int) (hid : 0 ≤ id ∧ id < 5) {n : Nat} {f : Nat → Int} {vt : Value} (ht : Ints w vt n f) (h1 : 1 ≤ n) (hn : n ≤ 40) (htok : ∀ j, j < n → ¬ badTok c.vocab (f j)) (hno : assoc p.L id = none) (hlen : p.L.length < 8) (hnf : ¬ fullS p.c ([], 0) (p.L.map (·.2)) p.il (natsOf n f)) :
   Calls Try.prog 13 #[.pointer (some ⟨X, 0, none⟩), .int .i64 id, vt] w fun e w' => e = .returned (.int .i64 0) ∧ (∀ e, ¬ mutT e → KeepT e w w') ∧ ∃ p' tn, DuoG B0 wb w' X Y c p' q ∧ FreshT p.L tn ∧ p'.L = p.L ++ [(id, endKey c.slots (natsOf n f) tn)] ∧ p'.il = ilS p.c ([], 0) (p.L.map (·.2)) p.il (natsOf n f) := by
 have hcr := kcreate h.hp h.size id n f vt (by omega) ht
 have hcode : createS p.c p.L p.il id n f = 0 := by
   unfold createS
   rw [hno, if_neg (by simp), if_neg (by omega), if_neg (by rw [h.cp]; exact fun ⟨j, hj, q⟩ => htok j hj q), if_neg (by omega), if_neg hnf]
 rw [hcode, h.X] at hcr
 refine hcr.mono ?_
 rintro e w' ⟨rfl, p', hp', ha, ⟨q1, _⟩ | ⟨_, tn, htn, eL, eI⟩⟩
 · rw [hcode] at q1; exact absurd rfl q1
 · rw [h.cp] at eL
   exact ⟨rfl, ha.moves.kept, p', tn, h.acted hp' ha, htn, eL, eI⟩
theorem g_append (h : DuoG B0 wb w X Y c p q) (id : Int) (hid : 0 ≤ id ∧ id < 5) {k0 : Key} {L1 L2 : List (Int × Key)} (eL : p.L = L1 ++ (id, k0) :: L2) (hx : assoc L1 id = none) {n : Nat} {f : Nat → Int} {vt : Value} (ht : Ints w vt n f) (hn : k0.1.length + n ≤ 40) (htok : ∀ j, j < n → ¬ badTok c.vocab (f j)) (hnf : ¬ fullS p.c k0 ((L1 ++ L2).map (·.2)) p.il (k0.1 ++ natsOf n f)) :
   Calls Try.prog 14 #[.pointer (some ⟨X, 0, none⟩), .int .i64 id, vt] w fun e w' => e = .returned (.int .i64 0) ∧ (∀ e, ¬ mutT e → KeepT e w w') ∧ ∃ p', DuoG B0 wb w' X Y c p' q ∧ ((n = 0 ∧ StillK p p') ∨ (n ≠ 0 ∧ ∃ tn, FreshT (L1 ++ L2) tn ∧ p'.L = L1 ++ (id, endKey c.slots (k0.1 ++ natsOf n f) tn) :: L2 ∧ p'.il = ilS p.c k0 ((L1 ++ L2).map (·.2)) p.il (k0.1 ++ natsOf n f))) := by
 obtain ⟨tn, htn⟩ := fresh_tn (L1 ++ L2)
 have hh := h.hp.held
 rw [eL] at hh
 have hcode : appendS p.c k0 ((L1 ++ L2).map (·.2)) p.il n f = 0 := by
   unfold appendS
   rw [if_neg (by rw [h.cp]; exact fun ⟨j, hj, q⟩ => htok j hj q), if_neg (by omega), if_neg hnf]
   split <;> rfl
 have hk : assoc (L1 ++ (id, k0) :: L2) id = some k0 := by rw [assoc_append, hx, assoc_cons, if_pos rfl]; rfl
 have := happend_some p.F (fun _ => True) p.g p.c h.hp.cok L1 L2 p.il id k0 n f vt tn w hh (by omega) hk ht htn (fun _ _ => trivial)
 rw [h.X] at this
 refine this.mono ?_
 rintro e w' ⟨rfl, ⟨h0, hb⟩ | ⟨h0, hn0, hm, hh'⟩⟩
 · rw [hcode]
   rcases h0 with h0 | h0
   · exact absurd hcode h0
   · exact ⟨rfl, fun e _ => KeepT.of_below hb, p, h.below hb, .inl ⟨h0, rfl, rfl⟩⟩
 · rw [hcode]
   obtain ⟨p', a, b, e1, e2⟩ := h.hp.acted h.size hm hh'
   rw [h.cp] at e1
   exact ⟨rfl, b.moves.kept, p', h.acted a b, .inr ⟨hn0, tn, htn, e1, e2⟩⟩
theorem g_fork (h : DuoG B0 wb w X Y c p q) {k : Key} (eL : p.L = [(0, k)]) :
   Calls Try.prog 21 #[.pointer (some ⟨X, 0, none⟩), .int .i64 0, .int .i64 1] w fun e w' => e = .returned (.int .i64 0) ∧ (∀ e, ¬ mutT e → KeepT e w w') ∧ ∃ p', DuoG B0 wb w' X Y c p' q ∧ p'.L = [(0, k), (1, k)] ∧ p'.il = p.il := by
 have hc := kfork h.hp h.size 0 1 (by omega) (by omega)
 rw [h.X] at hc
 refine hc.mono ?_
 rintro e w' ⟨code, rfl, p', hp', ha, ⟨q1, _⟩ | ⟨k1, hk1, hcode, hd⟩⟩
 · rw [eL, assoc_cons, if_pos rfl] at q1; cases q1
 · have h0 : code = 0 := by
     rw [hcode]
     unfold forkS
     rw [eL, if_neg (by rw [assoc_cons, assoc_nil]; simp), if_neg (by simp)]
   subst h0
   rw [eL, assoc_cons, if_pos rfl] at hk1
   injection hk1 with hk1
   subst hk1
   rcases hd with ⟨q, _⟩ | ⟨_, e1, e2⟩
   · exact absurd rfl q
   · rw [eL] at e1
     exact ⟨rfl, ha.moves.kept, p', h.acted hp' ha, e1, e2⟩
theorem g_stats (h : DuoG B0 wb w X Y c p q) {u : Nat} {fa ua : Int} (hfa : ((32 - u : Nat) : Int) = fa) (hua : (u : Int) = ua) (hI : p.il = []) (hu : nUsed c.slots (p.L.map (·.2)) = u) (h32 : c.blocks = 32) :
   Calls Try.prog 18 #[.pointer (some ⟨X, 0, none⟩)] w fun e w' => e = .returned (.agg #[.int .i64 fa, .int .i64 0, .int .i64 ua]) ∧ Below w.heap.size w w' := by
 have := kstats h.hp
 rw [h.X, h.cp, hI, hu] at this
 unfold freeS at this
 rw [hu, h32] at this
 subst hfa hua
 exact this
theorem g_alike (h : DuoG B0 wb w X Y c p q) (ht : ∀ k : Int, 0 ≤ k → k < 5 → tkM p.L k = tkM q.L k) :
   Calls Try.prog 17 #[.pointer (some ⟨X, 0, none⟩), .pointer (some ⟨Y, 0, none⟩), .int .i64 c.layers] w fun e w' => e = .returned (.bool true) ∧ Below w.heap.size w w' := by
 have hk := hkalike_any h.hp h.hq (by rw [h.cp, h.cq]; exact ⟨rfl, rfl, rfl, rfl, rfl⟩) ht
 rw [h.X, h.Y, h.cp] at hk
 exact hk
theorem g_room_more (h : DuoG B0 wb w X Y c p q) {id : Int} {k0 k1 : Key} {L1 L2 : List (Int × Key)} (eL : p.L = L1 ++ (id, k0) :: L2) (hone : (L1 ++ L2).map (·.2) = [k1]) (T P : List Nat) (hT : k0.1 <+: T) (h1 : P <+: k1.1) (h2 : P <+: T) (hle : nbOf c.slots k1.1.length + nbOf c.slots T.length ≤ c.blocks + P.length / c.slots) : ¬ fullS p.c k0 ((L1 ++ L2).map (·.2)) p.il T := fun hf => by
 obtain ⟨g1, g2, _⟩ := h.hp.pure0
 have hs := h.hp.cok.slots.1
 have hm : ∀ x, x ∈ p.L.map (·.2) ↔ x ∈ k0 :: (L1 ++ L2).map (·.2) := fun x => by
   rw [eL]
   simp only [List.map_append, List.map_cons, List.mem_append, List.mem_cons]
   constructor <;> (rintro (q | q | q) <;> simp [q])
 have hpu := g1.perm hm
 have hcnt : p.il.length + nUsed p.c.slots (k0 :: (L1 ++ L2).map (·.2)) ≤ p.c.blocks := by
   rw [← nUsed_perm p.c.slots (p.L.map (·.2)) _ hs (fun x hx => g1.ok x hx) hm]; exact g2
 have hk1 : keyOk p.c.slots k1 := hpu.ok k1 (by rw [hone]; simp)
 have := full_share hs hpu hcnt hT (h := k1) (by rw [hone]; simp) h1 h2 hf
 rw [hone, nUsed_one hs k1 hk1, h.cp] at this
 omega
theorem g_room_new (h : DuoG B0 wb w X Y c p q) {id : Int} {k1 : Key} (eL : p.L = [(id, k1)]) (T P : List Nat) (h1 : P <+: k1.1) (h2 : P <+: T) (hle : nbOf c.slots k1.1.length + nbOf c.slots T.length ≤ c.blocks + P.length / c.slots) : ¬ fullS p.c ([], 0) (p.L.map (·.2)) p.il T := fun hf => by
 obtain ⟨g1, g2, _⟩ := h.hp.pure0
 have hs := h.hp.cok.slots.1
 have hone : p.L.map (·.2) = [k1] := by rw [eL]; rfl
 have hk1 : keyOk p.c.slots k1 := g1.ok k1 (by rw [hone]; simp)
 have := full_share hs (pure_come g1) (by rw [nUsed_nil p.c.slots _ 0 hs (fun x hx => g1.ok x hx) rfl]; exact g2) (List.nil_prefix) (h := k1) (by rw [hone]; simp) h1 h2 hf
 rw [hone, nUsed_one hs k1 hk1, h.cp] at this
 omega
theorem g_room_first (h : DuoG B0 wb w X Y c p q) (eL : p.L = []) (T : List Nat) (hle : nbOf c.slots T.length ≤ c.blocks) : ¬ fullS p.c ([], 0) (p.L.map (·.2)) p.il T := fun hf => by
 have := h.hp.full_new _ hf
 rw [eL, h.cp] at this
 simp [nbSum] at this
 omega
end
end Go.Proofs.Ytlmflighkkgikaa
