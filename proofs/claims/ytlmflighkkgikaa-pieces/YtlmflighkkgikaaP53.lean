import Derived.Test.YtlmflighkkgikaaP50

namespace Go.Proofs.Ytlmflighkkgikaa
open Go.RowKit
def SoL (L : List (Int × Key)) (o : Option (List Nat)) : Prop := match o with | none => L = [] | some T => ∃ k : Key, L = [(0, k)] ∧ k.1 = T
theorem SoL.tk {L : List (Int × Key)} {T : List Nat} (h : SoL L (some T)) (k : Int) : tkM L k = if k = 0 then some T else none := by
 obtain ⟨k0, rfl, rfl⟩ := h
 unfold tkM
 rw [assoc_cons, assoc_nil]
 by_cases e : k = 0
 · rw [if_pos e, if_pos e.symm]; rfl
 · rw [if_neg e, if_neg (fun q => e q.symm)]; rfl
structure DuoK (B0 : Nat) (wb w : World) (X Y : Nat) (c : Cfg) (p q : HD) (o o' : Option (List Nat)) : Prop where
 hp : HeldK B0 w p
 hq : HeldK B0 w q
 ap : ∀ k, p.S k → ¬ q.S k
 bel : Below B0 wb w
 X : p.g.X = X
 Y : q.g.X = Y
 cp : p.c = c
 cq : q.c = c
 B : B0 ≤ wb.heap.size
 all : c.blocks = 32
 so : SoL p.L o
 so' : SoL q.L o'
section
variable {B0 : Nat} {wb w : World} {X Y : Nat} {c : Cfg} {p q : HD} {o o' : Option (List Nat)}
theorem DuoK.size (h : DuoK B0 wb w X Y c p q o o') : B0 ≤ w.heap.size := Nat.le_trans h.B h.bel.size
theorem DuoK.below {w' : World} (h : DuoK B0 wb w X Y c p q o o') (hb : Below w.heap.size w w') : DuoK B0 wb w' X Y c p q o o' :=
 ⟨h.hp.below hb, h.hq.below hb, h.ap, h.bel.trans (hb.mono h.size), h.X, h.Y, h.cp, h.cq, h.B, h.all, h.so, h.so'⟩
theorem DuoK.flip (h : DuoK B0 wb w X Y c p q o o') : DuoK B0 wb w Y X c q p o' o :=
 ⟨h.hq, h.hp, fun k hk hk' => h.ap k hk' hk, h.bel, h.Y, h.X, h.cq, h.cp, h.B, h.all, h.so', h.so⟩
theorem DuoK.acted {w' : World} {p' : HD} {o1 : Option (List Nat)} (h : DuoK B0 wb w X Y c p q o o') (hp' : HeldK B0 w' p') (ha : ActedK w w' p p') (hs : SoL p'.L o1) : DuoK B0 wb w' X Y c p' q o1 o' := by
 obtain ⟨hq', hap⟩ := apart_symm h.hq ha h.ap
 exact ⟨hp', hq', hap, h.bel.trans (h.hp.bel ha h.size), ha.g ▸ h.X, h.Y, ha.c.trans h.cp, h.cq, h.B, h.all, hs, h.so'⟩
theorem duo_create (h : DuoK B0 wb w X Y c p q none o') {n : Nat} {f : Nat → Int} {vt : Value} (ht : Ints w vt n f) (h1 : 1 ≤ n) (hn : n ≤ 32) (htok : ∀ j, j < n → ¬ badTok c.vocab (f j)) :
   Calls Try.prog 13 #[.pointer (some ⟨X, 0, none⟩), .int .i64 0, vt] w fun e w' => e = .returned (.int .i64 0) ∧ KeepT 3 w w' ∧ ∃ p', DuoK B0 wb w' X Y c p' q (some (natsOf n f)) o' := by
 have hL : p.L = [] := h.so
 have hs := h.hp.cok.slots
 have hcr := kcreate h.hp h.size 0 n f vt (by omega) ht
 have hcode : createS p.c p.L p.il 0 n f = 0 := by
   unfold createS
   rw [hL, assoc_nil, if_neg (by simp), if_neg (by simp; omega), if_neg (by rw [h.cp]; exact fun ⟨j, hj, q⟩ => htok j hj q), if_neg (by omega), if_neg]
   intro hf
   have := h.hp.full_new _ (by rw [hL]; exact hf)
   rw [hL, natsOf_len, h.cp, h.all] at this
   have h2 := nbOf_le (s := c.slots) (n := n) (by rw [← h.cp]; omega)
   simp [nbSum] at this
   omega
 rw [hcode, h.X] at hcr
 refine hcr.mono ?_
 rintro e w' ⟨rfl, p', hp', ha, ⟨q1, _⟩ | ⟨_, tn, _, eL, _⟩⟩
 · rw [hcode] at q1; exact absurd rfl q1
 · rw [hL, List.nil_append] at eL
   exact ⟨rfl, ha.moves.kept _ (by unfold mutT; decide), p', h.acted hp' ha ⟨_, eL, rfl⟩⟩
theorem duo_append {T : List Nat} (h : DuoK B0 wb w X Y c p q (some T) o') {n : Nat} {f : Nat → Int} {vt : Value} (ht : Ints w vt n f) (hn : T.length + n ≤ 32) (htok : ∀ j, j < n → ¬ badTok c.vocab (f j)) :
   Calls Try.prog 14 #[.pointer (some ⟨X, 0, none⟩), .int .i64 0, vt] w fun e w' => e = .returned (.int .i64 0) ∧ KeepT 3 w w' ∧ ∃ p', DuoK B0 wb w' X Y c p' q (some (T ++ natsOf n f)) o' := by
 obtain ⟨k0, hL, rfl⟩ := h.so
 have hs := h.hp.cok.slots
 have hcr := kappend h.hp h.size 0 n f vt (by omega) ht
 rw [h.X] at hcr
 refine hcr.mono ?_
 rintro e w' ⟨code, rfl, p', hp', ha, ⟨q1, _⟩ | ⟨k1, L1, L2, eL, hx, hcode, hd⟩⟩
 · rw [hL, assoc_cons, if_pos rfl] at q1; cases q1
 · obtain ⟨rfl, rfl, rfl⟩ : L1 = [] ∧ L2 = [] ∧ k1 = k0 := by
     rw [hL] at eL
     cases L1 with
     | nil => rw [List.nil_append] at eL; injection eL with e1 e2; injection e1 with _ e1; exact ⟨rfl, e2.symm, e1.symm⟩
     | cons x L1 => injection eL with _ e2; cases L1 <;> cases e2
   have h0 : code = 0 := by
     rw [hcode]
     unfold appendS
     rw [if_neg (by rw [h.cp]; exact fun ⟨j, hj, q⟩ => htok j hj q), if_neg (by omega)]
     by_cases hn0 : n = 0
     · rw [if_pos hn0]
     · rw [if_neg hn0, if_neg]
       intro hf
       have := h.hp.full_more eL _ (List.prefix_append _ _) hf
       rw [List.length_append, natsOf_len, h.cp, h.all] at this
       have h2 := nbOf_le (s := c.slots) (n := k1.1.length + n) (by rw [← h.cp]; omega)
       simp [nbSum] at this
       omega
   subst h0
   refine ⟨rfl, ha.moves.kept _ (by unfold mutT; decide), p', h.acted hp' ha ?_⟩
   rcases hd with ⟨q1 | hn0, hst⟩ | ⟨_, _, tn, _, eL', _⟩
   · exact absurd rfl q1
   · subst hn0
     exact ⟨k1, by rw [hst.1, hL], by simp [natsOf]⟩
   · exact ⟨_, eL', rfl⟩
theorem duo_decode {T : List Nat} (h : DuoK B0 wb w X Y c p q (some T) o') (n : Nat) (hn : T.length + n ≤ 32) :
   Calls Try.prog 15 #[.pointer (some ⟨X, 0, none⟩), .int .i64 0, .int .i64 n] w fun e w' => ∃ v, e = .returned (.tuple #[v, .int .i64 0]) ∧ IntsT w' v n (fun j => tkI (goTo c T n) (T.length + j)) ∧ KeepT 3 w w' ∧ ∃ p', DuoK B0 wb w' X Y c p' q (some (goTo c T n)) o' := by
 obtain ⟨k0, hL, rfl⟩ := h.so
 have hs := h.hp.cok.slots
 have hcr := kdecode h.hp h.size 0 n (by omega) (by omega)
 rw [h.X] at hcr
 refine hcr.mono ?_
 rintro e w' ⟨code, v, rfl, p', hp', ha, ⟨q1, _⟩ | ⟨k1, L1, L2, eL, hx, hcode, hd⟩⟩
 · rw [hL, assoc_cons, if_pos rfl] at q1; cases q1
 · obtain ⟨rfl, rfl, rfl⟩ : L1 = [] ∧ L2 = [] ∧ k1 = k0 := by
     rw [hL] at eL
     cases L1 with
     | nil => rw [List.nil_append] at eL; injection eL with e1 e2; injection e1 with _ e1; exact ⟨rfl, e2.symm, e1.symm⟩
     | cons x L1 => injection eL with _ e2; cases L1 <;> cases e2
   have h0 : code = 0 := by
     rw [hcode]
     unfold decodeS
     rw [if_neg (by omega), if_neg (by omega)]
     by_cases hn0 : (n : Int) = 0
     · rw [if_pos hn0]
     · rw [if_neg hn0, if_neg]
       intro hf
       have := h.hp.full_more eL _ (goTo_prefix p.c k1.1 _) hf
       rw [goTo_len, h.cp, h.all, Int.toNat_natCast] at this
       have h2 := nbOf_le (s := c.slots) (n := k1.1.length + n) (by rw [← h.cp]; omega)
       simp [nbSum] at this
       omega
   subst h0
   rcases hd with ⟨q1, _⟩ | ⟨_, hv, hd⟩
   · exact absurd rfl q1
   · rw [Int.toNat_natCast, h.cp] at hv
     refine ⟨v, rfl, hv, ha.moves.kept _ (by unfold mutT; decide), p', h.acted hp' ha ?_⟩
     rcases hd with ⟨hn0, hst⟩ | ⟨_, tn, _, eL', _⟩
     · have : n = 0 := by omega
       subst this
       exact ⟨k1, by rw [hst.1, hL], rfl⟩
     · rw [Int.toNat_natCast, h.cp] at eL'
       exact ⟨_, eL', rfl⟩
theorem duo_logits {T : List Nat} (h : DuoK B0 wb w X Y c p q (some T) o') :
   Calls Try.prog 16 #[.pointer (some ⟨X, 0, none⟩), .int .i64 0] w fun e w' => ∃ r, e = .returned (.tuple #[r, .int .i64 0]) ∧ IntsT w' r c.vocab (lgO c (some T)) ∧ Below w.heap.size w w' := by
 have := klogits h.hp 0 (by omega)
 rw [h.so.tk, if_pos rfl, h.X, h.cp] at this
 exact this
theorem duo_alike {T : List Nat} (h : DuoK B0 wb w X Y c p q (some T) (some T)) :
   Calls Try.prog 17 #[.pointer (some ⟨X, 0, none⟩), .pointer (some ⟨Y, 0, none⟩), .int .i64 c.layers] w fun e w' => e = .returned (.bool true) ∧ Below w.heap.size w w' := by
 have hk := hkalike_any h.hp h.hq (by rw [h.cp, h.cq]; exact ⟨rfl, rfl, rfl, rfl, rfl⟩) (fun k _ _ => by rw [h.so.tk, h.so'.tk])
 rw [h.X, h.Y, h.cp] at hk
 exact hk
end
theorem next_best (c : Cfg) (T : List Nat) (j : Nat) (hj : j < c.vocab) :
   let g := lgO c (some T)
   let n := nextOf c (xIn c (tkN T) (T.length - 1) c.layers)
   ¬ (g n < g j) ∧ ¬ (g j = g n ∧ j < n) := by
 intro g n
 have hg : g = logitsOf c (xIn c (tkN T) (T.length - 1) c.layers) := by funext i; rfl
 have hn : n = argTo g (c.vocab - 1) := by rw [hg]; rfl
 have h1 : g n = maxTo g (c.vocab - 1) := by rw [hn]; exact argTo_max g _
 have h2 := maxTo_ge g (c.vocab - 1) j (by omega)
 refine ⟨by omega, fun ⟨e, hl⟩ => ?_⟩
 rw [hn] at hl
 have := argTo_first g (c.vocab - 1) j hl
 omega
theorem goTo_step (c : Cfg) (T : List Nat) (n : Nat) : goTo c T (n + 1) = goTo c T n ++ [nextOf c (xIn c (tkN (goTo c T n)) ((goTo c T n).length - 1) c.layers)] := rfl
theorem goTo_at (c : Cfg) (T : List Nat) {n i : Nat} (hi : i < n) : tkI (goTo c T n) (T.length + i) = nextOf c (xIn c (tkN (goTo c T i)) ((goTo c T i).length - 1) c.layers) := by
 induction n with
 | zero => omega
 | succ n ih =>
   rw [goTo_step]
   unfold tkI tkN
   rw [List.getD_eq_getElem?_getD, List.getElem?_append]
   by_cases h : i < n
   · rw [if_pos (by rw [goTo_len]; omega)]
     have := ih h
     unfold tkI tkN at this
     rw [List.getD_eq_getElem?_getD] at this
     exact this
   · obtain rfl : i = n := by omega
     rw [if_neg (by rw [goTo_len]; omega), goTo_len]
     simp
theorem natsOf_cut (F : Nat → Int) (a b : Nat) : natsOf a F ++ natsOf b (fun j => F (a + j)) = natsOf (a + b) F := by
 unfold natsOf
 rw [List.range_add, List.map_append, List.map_map]
 rfl
end Go.Proofs.Ytlmflighkkgikaa
