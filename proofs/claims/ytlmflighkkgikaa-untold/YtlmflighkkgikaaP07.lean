import Derived.Deep.OwnRows
import Derived.Test.YtlmflighkkgikaaP06

namespace Go.Proofs.Ytlmflighkkgikaa
open Go.RowKit
def IntsT (w : World) (v : Value) (n : Nat) (g : Nat → Int) : Prop :=
 ∃ a c, v = .slice a n c ∧ n ≤ c ∧ c ≤ maxLen ∧ (0 < n → ∃ b off cur fr, a = some ⟨b, off, none⟩ ∧ w.heap[b]? = some (.cells cur 3 fr) ∧ ∀ j, j < n → cur[off + j]? = some (.int .i64 (g j)))
theorem IntsT.ints {w : World} {v : Value} {n : Nat} {g : Nat → Int} (h : IntsT w v n g) : Ints w v n g := by
 obtain ⟨a, c, rfl, h1, h2, h3⟩ := h
 refine ⟨a, c, rfl, h1, h2, fun hn => ?_⟩
 obtain ⟨b, off, cur, fr, rfl, hb, hc⟩ := h3 hn
 exact ⟨b, off, rfl, lt_blk hb, fun j hj => by rw [cell_blk hb]; exact hc j hj⟩
theorem IntsT.congr {w : World} {v : Value} {n : Nat} {f g : Nat → Int} (h : IntsT w v n f) (e : ∀ j, j < n → f j = g j) : IntsT w v n g := by
 obtain ⟨a, c, rfl, h1, h2, h3⟩ := h
 refine ⟨a, c, rfl, h1, h2, fun hn => ?_⟩
 obtain ⟨b, off, cur, fr, rfl, hb, hc⟩ := h3 hn
 exact ⟨b, off, cur, fr, rfl, hb, fun j hj => by rw [hc j hj, e j hj]⟩
def KeepT (e : TypeId) (w w' : World) : Prop := ∀ (k : Nat) (cur : Array Value) (fr : Nat × Nat), w.heap[k]? = some (Obj.cells cur e fr) → w'.heap[k]? = some (Obj.cells cur e fr)
theorem KeepT.trans {e : TypeId} {a b c : World} (h : KeepT e a b) (k : KeepT e b c) : KeepT e a c := fun i cur fr hi => k i cur fr (h i cur fr hi)
theorem KeepT.of_below {e : TypeId} {w w' : World} (h : Below w.heap.size w w') : KeepT e w w' := fun k cur fr hk => by
 rw [h.block k (lt_blk hk)]; exact hk
theorem IntsT.keep {w w' : World} {v : Value} {n : Nat} {g : Nat → Int} (h : IntsT w v n g) (hk : KeepT 3 w w') : IntsT w' v n g := by
 obtain ⟨a, c, rfl, h1, h2, h3⟩ := h
 refine ⟨a, c, rfl, h1, h2, fun hn => ?_⟩
 obtain ⟨b, off, cur, fr, rfl, hb, hc⟩ := h3 hn
 exact ⟨b, off, cur, fr, rfl, hk b cur fr hb, hc⟩
theorem IntsT.of_owns {w : World} {base : Nat} {v : Value} {n : Nat} {g : Nat → Int} (h : w.ownsRow base 3 1 v n ((List.range n).map fun j => .int .i64 (g j))) : IntsT w v n g := by
 obtain ⟨_, ⟨rfl, rfl⟩ | ⟨b, cap, cur, rfl, _, hb, hn, hm, hs, ht⟩⟩ := h
 · exact ⟨none, 0, rfl, Nat.le_refl _, by simp [maxLen], fun h => absurd h (by omega)⟩
 · refine ⟨_, cap, rfl, hn, hm, fun _ => ⟨b, 0, cur, (0, 0), rfl, hb, fun j hj => ?_⟩⟩
   have := congrArg (fun l => l[j]?) ht
   simp [hj] at this
   simpa using this
theorem KeepT.of_grown {e e' : TypeId} {w w' : World} {base size n : Nat} {v : Value} {xs : List Value} (hown : w.ownsRow base e' size v n xs) (hg : w.grownBy w' v.ownBlock) (hne : e ≠ e') : KeepT e w w' := by
 intro k cur fr hk
 by_cases hkr : some k = v.ownBlock
 · obtain ⟨_, ⟨rfl, _⟩ | ⟨b, cap, cur', rfl, _, hb, _⟩⟩ := hown
   · simp [Value.ownBlock] at hkr
   · simp [Value.ownBlock] at hkr
     subst hkr
     rw [hb] at hk
     injection hk with hk
     injection hk with _ he _
     exact absurd he.symm hne
 · rw [hg.block k (lt_blk hk) hkr]; exact hk
theorem KeepT.alloc {e : TypeId} (w : World) (o : Obj) : KeepT e w (w.alloc o) := fun k cur fr hk => by
 rw [alloc_old w o k (lt_blk hk)]; exact hk
theorem KeepT.drewN {e : TypeId} (w : World) (n : Nat) : KeepT e w (w.drewN n) := fun _ _ _ hk => hk
theorem KeepT.setCell {e e' : TypeId} {w : World} {b i : Nat} {arr : Array Value} {fr' : Nat × Nat} (hb : w.heap[b]? = some (.cells arr e' fr')) (hne : e ≠ e') (v : Value) : KeepT e w (w.setCell ⟨b, i, none⟩ v) := by
 intro k cur fr hk
 by_cases hkb : k = b
 · subst hkb
   rw [hb] at hk
   injection hk with hk
   injection hk with _ he _
   exact absurd he.symm hne
 · rw [setCell_far w b i k v hkb]; exact hk
theorem below_of_drewN {w w1 : World} {k : Nat} (h : Below (w.drewN k).heap.size (w.drewN k) w1) : Below w.heap.size w w1 := ⟨h.os, h.tape, h.output, h.size, h.block⟩
theorem IntsT.drewN {w : World} {v : Value} {n : Nat} {g : Nat → Int} (h : IntsT w v n g) (k : Nat) : IntsT (w.drewN k) v n g := h
section
variable {B : Nat} {w : World} {s bK bV L m : Nat} {vX : Value} {rv : Nat → Value} {n : Nat → Nat} {xs : Nat → Nat → Value} {f : Nat → Nat → Nat → Int}
end
def filled (g : Nat → Int) (k j : Nat) : Int := if j < k then g j else 0
theorem fill_start (w : World) (n : Nat) (g : Nat → Int) : (w.alloc (.cells (madeCells #[.int .i64 0] n) 3)).rowIs w.heap.size 3 n (fun j => .int .i64 (filled g 0 j)) :=
 (World.rowIs_made w (.int .i64 0) n 3).congr (fun i _ => by simp [filled])
theorem fill_step {w : World} {b n k : Nat} {t : TypeId} {g : Nat → Int} (h : w.rowIs b t n (fun j => .int .i64 (filled g k j))) {x : Int} (hx : x = g k) :
   (w.setCell ⟨b, k, none⟩ (.int .i64 x)).rowIs b t n (fun j => .int .i64 (filled g (k + 1) j)) := by
 refine (h.set k (.int .i64 x)).congr (fun i _ => ?_)
 subst hx
 unfold filled
 by_cases e : i = k
 · subst e; simp
 · rw [if_neg e]
   by_cases h1 : i < k
   · rw [if_pos h1, if_pos (by omega)]
   · rw [if_neg h1, if_neg (by omega)]
theorem fill_done {w : World} {b n : Nat} {g : Nat → Int} (h : w.rowIs b 3 n (fun j => .int .i64 (filled g n j))) (hn : n ≤ maxLen) : IntsT w (.slice (some ⟨b, 0, none⟩) n n) n g := by
 obtain ⟨c, hb, hs, hc⟩ := h
 refine ⟨_, n, rfl, Nat.le_refl _, hn, fun _ => ⟨b, 0, c, (0, 0), rfl, hb, fun j hj => ?_⟩⟩
 have := hc j hj
 simp only [filled, if_pos hj] at this
 simpa using this
theorem IntsT.at {w : World} {v : Value} {n : Nat} {g : Nat → Int} (h : IntsT w v n g) : ∃ a c, v = .slice a n c ∧ n ≤ c ∧ (0 < n → ∃ b off, a = some ⟨b, off, none⟩ ∧ b < w.heap.size ∧ ∀ j, j < n → w.cell? ⟨b, off + j, none⟩ = some (.int .i64 (g j))) := by
 obtain ⟨a, c, rfl, h1, _, h3⟩ := h.ints
 exact ⟨a, c, rfl, h1, h3⟩
def Cfg.ww (c : Cfg) : Nat := c.width * c.width
def Cfg.from (c : Cfg) (l : Nat) : Nat := c.vocab * c.width + l * 8 * c.ww
def qNew (c : Cfg) (l p : Nat) (x : Nat → Int) : Nat → Int := turnOf c.pairs p (mulAt c.weight (c.from l) c.width (normOf c.width x))
def kNew (c : Cfg) (l p : Nat) (x : Nat → Int) : Nat → Int := turnOf c.pairs p (mulAt c.weight (c.from l + c.ww) c.width (normOf c.width x))
def vNew (c : Cfg) (l : Nat) (x : Nat → Int) : Nat → Int := mulAt c.weight (c.from l + 2 * c.ww) c.width (normOf c.width x)
def attOf (c : Cfg) (p : Nat) (q : Nat → Int) (kf vf : Nat → Nat → Int) (i : Nat) : Int :=
 headAt p (fun t => scoreOf (i / (2 * c.pairs) * (2 * c.pairs)) (2 * c.pairs) q (kf t)) (fun t => vf t i)
def xMid (c : Cfg) (l : Nat) (x att : Nat → Int) : Nat → Int := plusOf x (mulAt c.weight (c.from l + 3 * c.ww) c.width att)
def notNeg (x : Int) : Int := if x < 0 then 0 else x
def zOf (c : Cfg) (l : Nat) (xm : Nat → Int) (i : Nat) : Int := notNeg (mulAt c.weight (c.from l + 4 * c.ww) c.width (normOf c.width xm) i)
def xUp (c : Cfg) (l : Nat) (xm z : Nat → Int) : Nat → Int := plusOf xm (mulAt c.weight (c.from l + 6 * c.ww) (2 * c.width) z)
def xNext (c : Cfg) (l p : Nat) (x : Nat → Int) (kf vf : Nat → Nat → Int) : Nat → Int :=
 xUp c l (xMid c l x (attOf c p (qNew c l p x) kf vf)) (zOf c l (xMid c l x (attOf c p (qNew c l p x) kf vf)))
theorem mulAt_bd (W : Nat → Int) (a m : Nat) (v : Nat → Int) (i : Nat) : -4095 ≤ mulAt W a m v i ∧ mulAt W a m v i ≤ 4095 := cutI_bd _
theorem normOf_bd (n : Nat) (v : Nat → Int) (i : Nat) : -4095 ≤ normOf n v i ∧ normOf n v i ≤ 4095 := cutI_bd _
theorem plusOf_bd (a b : Nat → Int) (i : Nat) : -4095 ≤ plusOf a b i ∧ plusOf a b i ≤ 4095 := cutI_bd _
theorem qNew_bd (c : Cfg) (l p : Nat) (x : Nat → Int) (i : Nat) : -4095 ≤ qNew c l p x i ∧ qNew c l p x i ≤ 4095 := turnOf_bd _ _ _ (fun _ => mulAt_bd _ _ _ _ _) _
theorem kNew_bd (c : Cfg) (l p : Nat) (x : Nat → Int) (i : Nat) : -4095 ≤ kNew c l p x i ∧ kNew c l p x i ≤ 4095 := turnOf_bd _ _ _ (fun _ => mulAt_bd _ _ _ _ _) _
theorem vNew_bd (c : Cfg) (l : Nat) (x : Nat → Int) (i : Nat) : -4095 ≤ vNew c l x i ∧ vNew c l x i ≤ 4095 := mulAt_bd _ _ _ _ _
theorem zOf_bd (c : Cfg) (l : Nat) (x : Nat → Int) (i : Nat) : -4095 ≤ zOf c l x i ∧ zOf c l x i ≤ 4095 := by
 have := mulAt_bd c.weight (c.from l + 4 * c.ww) c.width (normOf c.width x) i
 unfold zOf notNeg; split <;> omega
theorem sum_le_mul {s v : Nat → Int} {n : Nat} {b : Int} (hs : ∀ t, 0 ≤ s t) (hv : ∀ t, v t ≤ b) : sumTo (fun t => s t * v t) n ≤ b * sumTo s n := by
 induction n with
 | zero => simp [sumTo]
 | succ n ih =>
   simp only [sumTo]
   have h1 := Int.mul_le_mul_of_nonneg_left (hv n) (hs n)
   rw [Int.mul_add, Int.mul_comm b (s n)]; omega
theorem headAt_bd (p : Nat) (sc v : Nat → Int) (bv : ∀ t, -4095 ≤ v t ∧ v t ≤ 4095) : -4095 ≤ headAt p sc v ∧ headAt p sc v ≤ 4095 := by
 have hpos := shares_pos p sc
 have h1 := sum_le_mul (s := shareAt p sc) (v := v) (n := p + 1) (b := 4095) (fun t => (shareAt_bd p sc t).1) (fun t => (bv t).2)
 have h2 := sum_le_mul (s := shareAt p sc) (v := fun t => -(v t)) (n := p + 1) (b := 4095) (fun t => (shareAt_bd p sc t).1) (fun t => by have := (bv t).1; omega)
 have e : sumTo (fun t => shareAt p sc t * -(v t)) (p + 1) = -(sumTo (fun t => shareAt p sc t * v t) (p + 1)) := by
   generalize p + 1 = m
   induction m with
   | zero => simp [sumTo]
   | succ m ih => simp only [sumTo]; rw [ih, Int.mul_neg]; omega
 rw [e] at h2
 unfold headAt
 generalize sumTo (fun t => shareAt p sc t * v t) (p + 1) = S at h1 h2
 generalize sumTo (shareAt p sc) (p + 1) = A at hpos h1 h2
 by_cases h0 : 0 ≤ S
 · rw [Int.tdiv_eq_ediv_of_nonneg h0]
   have a1 := Int.ediv_nonneg h0 (show 0 ≤ A by omega)
   have a2 : S / A ≤ 4095 := Int.ediv_le_of_le_mul (by omega) h1
   omega
 · have e : S = -(-S) := by omega
   rw [e, Int.neg_tdiv, Int.tdiv_eq_ediv_of_nonneg (by omega)]
   have a1 := Int.ediv_nonneg (show 0 ≤ -S by omega) (show 0 ≤ A by omega)
   have a2 : -S / A ≤ 4095 := Int.ediv_le_of_le_mul (by omega) h2
   omega
theorem attOf_bd (c : Cfg) (p : Nat) (q : Nat → Int) (kf vf : Nat → Nat → Int) (bv : ∀ t j, -4095 ≤ vf t j ∧ vf t j ≤ 4095) (i : Nat) : -4095 ≤ attOf c p q kf vf i ∧ attOf c p q kf vf i ≤ 4095 := headAt_bd _ _ _ (fun t => bv t _)
theorem Cfg.fits {c : Cfg} (l : Nat) (hl : l < c.layers) : c.from l + 8 * c.ww ≤ c.vocab * c.width + c.layers * 8 * c.ww ∧ c.vocab * c.width + c.layers * 8 * c.ww + c.vocab * c.width = c.many := by
 constructor
 · unfold Cfg.from
   have : (l + 1) * (8 * c.ww) ≤ c.layers * (8 * c.ww) := Nat.mul_le_mul_right _ hl
   rw [Nat.add_mul] at this
   rw [Nat.mul_assoc l, Nat.mul_assoc c.layers]; omega
 · unfold Cfg.many Cfg.ww
   rw [Nat.mul_assoc (c.layers * 8), Nat.mul_assoc 2]; omega
theorem Cfg.many_bd {c : Cfg} (hc : c.ok) : c.many ≤ 1216 := by
 obtain ⟨w1, w2⟩ := c.width_bd hc
 obtain ⟨d1, d2⟩ := hc.vocab
 obtain ⟨e1, e2⟩ := hc.layers
 unfold Cfg.many
 have a : 2 * c.vocab * c.width ≤ 24 * 8 := Nat.mul_le_mul (by omega) w2
 have b : c.layers * 8 * c.width * c.width ≤ 16 * 8 * 8 := Nat.mul_le_mul (Nat.mul_le_mul (by omega) w2) w2
 omega
def OwnI (base : Nat) (w : World) (b cap n : Nat) (g : Nat → Int) : Prop :=
 ∃ cur : Array Value, base ≤ b ∧ w.heap[b]? = some (.cells cur 3 (0, 0)) ∧ n ≤ cap ∧ cap ≤ maxLen ∧ cur.size = cap ∧ ∀ j, j < n → cur[j]? = some (.int .i64 (g j))
section
variable {base : Nat} {w w' : World} {b cap n : Nat} {g : Nat → Int}
theorem OwnI.of_owns {v : Value} (h : w.ownsRow base 3 1 v n ((List.range n).map fun j => .int .i64 (g j))) : (v = .slice none 0 0 ∧ n = 0) ∨ ∃ b cap, v = .slice (some ⟨b, 0, none⟩) n cap ∧ OwnI base w b cap n g := by
 obtain ⟨_, h | ⟨b, cap, cur, rfl, hb, hg, hn, hm, hs, ht⟩⟩ := h
 · exact .inl h
 · refine .inr ⟨b, cap, rfl, cur, hb, hg, hn, hm, by omega, fun j hj => ?_⟩
   have := congrArg (fun l => l[j]?) ht
   simp [hj] at this
   simpa using this
theorem OwnI.ints (h : OwnI base w b cap n g) : IntsT w (.slice (some ⟨b, 0, none⟩) n cap) n g := by
 obtain ⟨cur, h1, h2, h3, h4, h5, h6⟩ := h
 exact ⟨_, cap, rfl, h3, h4, fun _ => ⟨b, 0, cur, (0, 0), rfl, h2, fun j hj => by simpa using h6 j hj⟩⟩
theorem OwnI.set (h : OwnI base w b cap n g) (k : Nat) (x : Int) : OwnI base (w.setCell ⟨b, k, none⟩ (.int .i64 x)) b cap n (fun j => if j = k then x else g j) := by
 obtain ⟨cur, h1, h2, h3, h4, h5, h6⟩ := h
 refine ⟨cur.setIfInBounds k (.int .i64 x), h1, setCell_blk h2 _ _, h3, h4, by simpa using h5, fun j hj => ?_⟩
 by_cases e : j = k
 · subst e; simp [show j < cur.size by omega]
 · rw [Array.getElem?_setIfInBounds_ne (by omega)]; simp only [if_neg e]; exact h6 j hj
theorem OwnI.congr {g' : Nat → Int} (h : OwnI base w b cap n g) (e : ∀ j, j < n → g j = g' j) : OwnI base w b cap n g' := by
 obtain ⟨cur, h1, h2, h3, h4, h5, h6⟩ := h
 exact ⟨cur, h1, h2, h3, h4, h5, fun j hj => by rw [h6 j hj, e j hj]⟩
theorem OwnI.cell (h : OwnI base w b cap n g) (j : Nat) (hj : j < n) : w.cell? ⟨b, j, none⟩ = some (.int .i64 (g j)) := by
 obtain ⟨cur, h1, h2, h3, h4, h5, h6⟩ := h
 rw [cell_blk h2]; exact h6 j hj
theorem OwnI.frozen (h : OwnI base w b cap n g) (j : Nat) : w.frozen? ⟨b, j, none⟩ = false := by
 obtain ⟨cur, h1, h2, _⟩ := h
 exact frozen_blk h2 j
theorem OwnI.mono {base' : Nat} (h : OwnI base w b cap n g) (hb : base' ≤ base) : OwnI base' w b cap n g := by
 obtain ⟨cur, h1, r⟩ := h
 exact ⟨cur, Nat.le_trans hb h1, r⟩
theorem OwnI.lt (h : OwnI base w b cap n g) : b < w.heap.size := by
 obtain ⟨cur, h1, h2, _⟩ := h
 exact lt_blk h2
theorem OwnI.ge (h : OwnI base w b cap n g) : base ≤ b := by
 obtain ⟨cur, h1, h2, _⟩ := h
 exact h1
end
set_option maxHeartbeats 400000 in
theorem product_any (n m : Nat) (va vb : Value) (a b : Nat → Int) (w : World) (ha : IntsT w va n a) (hb : IntsT w vb m b) (hnm : n ≤ m) (hn : n ≤ 100) (ba : ∀ j, -4095 ≤ a j ∧ a j ≤ 4095) (bb : ∀ j, -4095 ≤ b j ∧ b j ≤ 4095) :
   Calls Try.prog 76 #[va, vb] w fun e w' => e = .returned (.int .i64 (sumTo (fun j => a j * b j) n)) ∧ w' = w := by
 obtain ⟨aa, ca, rfl, ha1, ha3⟩ := ha.at
 obtain ⟨ab, cb, rfl, hb1, hb3⟩ := hb.at
 clear ha hb
 go_enter Try.func76, Try.ntmps76
 go_wp2
 go_loop [5, 10] (fun s i => ∃ k : Nat, k ≤ n ∧ i = .int .i64 k ∧ s = .int .i64 (sumTo (fun j => a j * b j) k)) (fun _ i => n - (intOf i).toNat)
 case atStart => exact ⟨0, Nat.zero_le _, rfl, rfl⟩
 case round =>
   obtain ⟨k, hk, rfl, rfl⟩ := hrel
   obtain ⟨hs1, hs2⟩ := sumTo_bd (f := fun j => a j * b j) (n := k) (b := 4095 * 4095) (fun i _ => mul_bd (ba _) (bb _))
   obtain ⟨hp1, hp2⟩ := mul_bd (ba k) (bb k)
   by_cases hlt : k < n
   · obtain ⟨b1, o1, rfl, hlb1, hc1⟩ := ha3 (by omega)
     obtain ⟨b2, o2, rfl, hlb2, hc2⟩ := hb3 (by omega)
     have c1 := hc1 k hlt
     have c2 := hc2 k (by omega)
     clear hc1 hc2 ha3 hb3
     go_wp2
     go_round
     case rel => exact ⟨k + 1, by omega, by go_num, rfl⟩
     case measure => simp [intOf]; omega
   · have hkr : n = k := by omega
     subst hkr
     clear ha3 hb3
     go_wp2
     go_ret
     exact ⟨rfl, rfl⟩
set_option maxHeartbeats 400000 in
theorem dplus_any (n : Nat) (va vb : Value) (a b : Nat → Int) (w : World) (ha : IntsT w va n a) (hb : IntsT w vb n b) (hn : n ≤ 100) (ba : ∀ j, -4095 ≤ a j ∧ a j ≤ 4095) (bb : ∀ j, -4095 ≤ b j ∧ b j ≤ 4095) :
   Calls Try.prog 72 #[va, vb] w fun e w' => ∃ r, e = .returned r ∧ IntsT w' r n (plusOf a b) ∧ Below w.heap.size w w' := by
 obtain ⟨aa, ca, rfl, ha1, ha3⟩ := ha.at
 obtain ⟨ab, cb, rfl, hb1, hb3⟩ := hb.at
 clear ha hb
 have hmk := run_make_row' (P := Try.prog) 24 3 (.int .i64 0) 8 Try.underlying24 Try.info_int rfl .i64 .i64 n (by omega) (by omega)
 go_enter Try.func72, Try.ntmps72
 go_wp2
 clear hmk
 go_loopw [13] (fun i wr => ∃ k : Nat, k ≤ n ∧ i = .int .i64 k ∧ wr.rowIs w.heap.size 3 n (fun j => .int .i64 (filled (plusOf a b) k j)) ∧ Below w.heap.size w wr) (fun i _ => n - (intOf i).toNat)
 case atStart => exact ⟨0, Nat.zero_le _, rfl, fill_start w n _, (Below.refl _ _).alloc (Nat.le_refl _) _⟩
 case round =>
   obtain ⟨k, hk, rfl, hrow, hbel⟩ := hrel
   by_cases hlt : k < n
   · obtain ⟨b1, o1, rfl, hlb1, hc1⟩ := ha3 (by omega)
     obtain ⟨b2, o2, rfl, hlb2, hc2⟩ := hb3 (by omega)
     have c1 := (hbel.cell (p := ⟨b1, o1 + k, none⟩) hlb1).trans (hc1 k hlt)
     have c2 := (hbel.cell (p := ⟨b2, o2 + k, none⟩) hlb2).trans (hc2 k hlt)
     have c3 := hrow.cell hlt
     have c4 := hrow.frozen k
     obtain ⟨x1, x2⟩ := ba k
     obtain ⟨y1, y2⟩ := bb k
     clear hc1 hc2 ha3 hb3
     go_wp2_with (go_at_call 75; refine Calls_use (cut_any _ _) ?_)
     go_roundw
     case rel => exact ⟨k + 1, by omega, by go_num, fill_step hrow rfl, hbel.setCell (Nat.le_refl _) _⟩
     case measure => simp [intOf]; omega
   · have hkr : n = k := by omega
     subst hkr
     clear ha3 hb3
     go_wp2
     go_ret
     exact ⟨_, rfl, fill_done hrow (by unfold maxLen; omega), hbel⟩
def okV (ok : Nat → Prop) (v : Value) : Prop := ∀ a n c, v = .slice (some a) n c → ok a.block
theorem okV.mono {ok ok' : Nat → Prop} {v : Value} (h : okV ok v) (hm : ∀ b, ok b → ok' b) : okV ok' v := fun a n c e => hm _ (h a n c e)
theorem okV.of_owns {w : World} {base : Nat} {e : TypeId} {size n : Nat} {v : Value} {xs : List Value} (h : w.ownsRow base e size v n xs) : okV (fun b => base ≤ b) v := by
 intro a m c ev
 obtain ⟨_, ⟨e1, _⟩ | ⟨g, cap, cur, e1, hb, _⟩⟩ := h
 · rw [e1] at ev; cases ev
 · rw [e1] at ev; cases ev; exact hb
theorem OwnI.of_row {base : Nat} {w : World} {b n : Nat} {g : Nat → Int} (h : w.rowIs b 3 n (fun j => .int .i64 (g j))) (hb : base ≤ b) (hn : n ≤ maxLen) : OwnI base w b n n g := by
 obtain ⟨c, h1, h2, h3⟩ := h
 exact ⟨c, hb, h1, Nat.le_refl _, hn, h2, h3⟩
def CellI (ok : Nat → Prop) (w : World) (v : Value) (L m : Nat) (kf vf : Nat → Nat → Int) : Prop :=
 ∃ b cap arr fr, v = .slice (some ⟨b, 0, none⟩) L cap ∧ L ≤ cap ∧ cap ≤ maxLen ∧ w.heap[b]? = some (.cells arr 113 fr) ∧
   ∀ l, l < L → ∃ vk vv, arr[l * 2]? = some vk ∧ arr[l * 2 + 1]? = some vv ∧ IntsT w vk m (kf l) ∧ IntsT w vv m (vf l) ∧ okV ok vk ∧ okV ok vv
theorem CellI.mono {ok ok' : Nat → Prop} {w : World} {v : Value} {L m : Nat} {kf vf : Nat → Nat → Int} (h : CellI ok w v L m kf vf) (hm : ∀ b, ok b → ok' b) : CellI ok' w v L m kf vf := by
 obtain ⟨b, cap, arr, fr, h1, h2, h3, h4, h5⟩ := h
 refine ⟨b, cap, arr, fr, h1, h2, h3, h4, fun l hl => ?_⟩
 obtain ⟨vk, vv, q1, q2, q3, q4, q5, q6⟩ := h5 l hl
 exact ⟨vk, vv, q1, q2, q3, q4, q5.mono hm, q6.mono hm⟩
theorem IntsT.stays {ok : Nat → Prop} {w w' : World} {v : Value} {n : Nat} {g : Nat → Int} (h : IntsT w v n g) (ho : okV ok v) (hk : ∀ b cur fr, ok b → w.heap[b]? = some (.cells cur 3 fr) → w'.heap[b]? = some (.cells cur 3 fr)) : IntsT w' v n g := by
 obtain ⟨a, c, rfl, h1, h2, h3⟩ := h
 refine ⟨a, c, rfl, h1, h2, fun hn => ?_⟩
 obtain ⟨b, off, cur, fr, rfl, hb, hc⟩ := h3 hn
 exact ⟨b, off, cur, fr, rfl, hk b cur fr (ho _ _ _ rfl) hb, hc⟩
theorem CellI.stays {ok : Nat → Prop} {w w' : World} {v : Value} {L m : Nat} {kf vf : Nat → Nat → Int} (h : CellI ok w v L m kf vf) (hM : KeepT 113 w w')
   (hk : ∀ b cur fr, ok b → w.heap[b]? = some (.cells cur 3 fr) → w'.heap[b]? = some (.cells cur 3 fr)) : CellI ok w' v L m kf vf := by
 obtain ⟨b, cap, arr, fr, h1, h2, h3, h4, h5⟩ := h
 refine ⟨b, cap, arr, fr, h1, h2, h3, hM _ _ _ h4, fun l hl => ?_⟩
 obtain ⟨vk, vv, q1, q2, q3, q4, q5, q6⟩ := h5 l hl
 exact ⟨vk, vv, q1, q2, q3.stays q5 hk, q4.stays q6 hk, q5, q6⟩
theorem CellI.keep {ok : Nat → Prop} {w w' : World} {v : Value} {L m : Nat} {kf vf : Nat → Nat → Int} (h : CellI ok w v L m kf vf) (hM : KeepT 113 w w') (hI : KeepT 3 w w') : CellI ok w' v L m kf vf :=
 h.stays hM (fun b cur fr _ hb => hI b cur fr hb)
theorem CellI.old {ok : Nat → Prop} {w : World} {v : Value} {L m : Nat} {kf vf : Nat → Nat → Int} (hm : 0 < m) (h : CellI ok w v L m kf vf) : CellI (fun b => b < w.heap.size) w v L m kf vf := by
 obtain ⟨b, cap, arr, fr, h1, h2, h3, h4, h5⟩ := h
 have go : ∀ {u : Value} {g : Nat → Int}, IntsT w u m g → okV (fun b => b < w.heap.size) u := by
   intro u g hu a n c e
   obtain ⟨a', c', e', _, _, q⟩ := hu
   rw [e'] at e
   obtain ⟨b, off, cur, fr, ea, hb, _⟩ := q hm
   subst ea
   cases e
   exact lt_blk hb
 refine ⟨b, cap, arr, fr, h1, h2, h3, h4, fun l hl => ?_⟩
 obtain ⟨vk, vv, q1, q2, q3, q4, _, _⟩ := h5 l hl
 exact ⟨vk, vv, q1, q2, q3, q4, go q3, go q4⟩
end Go.Proofs.Ytlmflighkkgikaa
