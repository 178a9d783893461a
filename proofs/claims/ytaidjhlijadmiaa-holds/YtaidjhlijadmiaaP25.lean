import Derived.Test.YtaidjhlijadmiaaP11
import Derived.Test.YtaidjhlijadmiaaP12
import Derived.Test.YtaidjhlijadmiaaP24

/-
  The program's logits.
-/
namespace Go.Proofs.Ytaidjhlijadmiaa
open Go.RowKit
attribute [local go_sem ↓] Go.wp_at_zero Go.wp_at_succ

/-- The logits behind what came out of the last layer. -/
def logitsOf (c : Cfg) (x : Nat → Int) : Nat → Int := mulAt c.weight c.headAt c.width (normOf c.width x)

set_option maxRecDepth 100000 in
set_option maxHeartbeats 400000 in
theorem dlogits_any (c : Cfg) (hc : c.ok) (M : Nat) (vx vE vH : Value) (bL oL cL : Nat) (x : Nat → Int) (w : World) (hM : ModelI w M c vE vH bL oL cL) (hx : IntsT w vx c.width x) (bx : ∀ j, -4095 ≤ x j ∧ x j ≤ 4095) :
    Calls Try.prog 68 #[.pointer (some ⟨M, 0, none⟩), vx] w fun e w' => ∃ b, e = .returned (.slice (some ⟨b, 0, none⟩) c.vocab c.vocab) ∧ OwnI w.heap.size w' b c.vocab c.vocab (logitsOf c x) ∧ Below w.heap.size w w' := by
  obtain ⟨w1, w2⟩ := c.width_bd hc
  obtain ⟨d1, d2⟩ := hc.vocab
  have hMl := lt_blk hM.obj
  have m2 : w.cell? ⟨M, 2, none⟩ = some vH := by rw [cell_blk hM.obj]; rfl
  have hBn : Below w.heap.size w w := Below.refl _ _
  go_enter Try.func68, Try.ntmps68
  go_wp2
  go_region_held3 (fun w' => w'.cell? ⟨M, 2, none⟩ = some vH)
    (exact (hBn.cell (p := ⟨M, 2, none⟩) hMl).trans m2)
    (first
      | (go_at_call 80; refine (dnorm_any c.width _ x _ (by exact hx) (by omega) (by omega) bx).mono ?_; rintro e x4 ⟨ym, rfl, hym, hbA⟩; replace hbA := below_of_drewN (k := 1) hbA; replace hBn := hBn.trans (hbA.mono hBn.size))
      | (go_at_call 82; refine (dtimes_F c _ c.headAt c.vocab c.width _ ym _ (hM.head.below hBn) hym (by omega) (by omega) (normOf_bd _ _)).mono ?_; rintro e x5 ⟨bu, rfl, huu, hbB⟩; replace huu := huu.mono hBn.size; replace hBn := hBn.trans (hbB.mono hBn.size)))
  go_wp2
  go_ret
  exact ⟨_, rfl, huu, hBn⟩

end Go.Proofs.Ytaidjhlijadmiaa

/-
  What the decoder keeps of tokens, and what it tells behind them, by functions of the tokens alone.
-/
namespace Go.Proofs.Ytaidjhlijadmiaa
open Go.RowKit

/-- k and v of the first n positions, by positions and layers. -/
def memOf (c : Cfg) (tk : Nat → Nat) : Nat → (Nat → Nat → Nat → Int) × (Nat → Nat → Nat → Int)
  | 0 => (fun _ _ _ => 0, fun _ _ _ => 0)
  | p + 1 => (fun t l => if t = p then kNew c l p (xAt c p (tk p) (memOf c tk p).1 (memOf c tk p).2 l) else (memOf c tk p).1 t l,
              fun t l => if t = p then vNew c l (xAt c p (tk p) (memOf c tk p).1 (memOf c tk p).2 l) else (memOf c tk p).2 t l)

/-- What stands at a layer's head, for the token at position p. -/
def xIn (c : Cfg) (tk : Nat → Nat) (p l : Nat) : Nat → Int := xAt c p (tk p) (memOf c tk p).1 (memOf c tk p).2 l

/-- The k and the v that are kept of a position. -/
def kOf (c : Cfg) (tk : Nat → Nat) (p l : Nat) : Nat → Int := kNew c l p (xIn c tk p l)
def vOf (c : Cfg) (tk : Nat → Nat) (p l : Nat) : Nat → Int := vNew c l (xIn c tk p l)

theorem memOf_at (c : Cfg) (tk : Nat → Nat) (n t : Nat) (h : t < n) : (memOf c tk n).1 t = kOf c tk t ∧ (memOf c tk n).2 t = vOf c tk t := by
  induction n with
  | zero => omega
  | succ n ih =>
    by_cases e : t = n
    · subst e; simp only [memOf, if_true]; exact ⟨rfl, rfl⟩
    · simp only [memOf, if_neg e]; exact ih (by omega)

theorem memOf_bd (c : Cfg) (tk : Nat → Nat) (n : Nat) : (∀ t l j, -4095 ≤ (memOf c tk n).1 t l j ∧ (memOf c tk n).1 t l j ≤ 4095) ∧ (∀ t l j, -4095 ≤ (memOf c tk n).2 t l j ∧ (memOf c tk n).2 t l j ≤ 4095) := by
  induction n with
  | zero => constructor <;> intro t l j <;> simp [memOf]
  | succ n ih =>
    constructor <;> intro t l j <;> simp only [memOf] <;> split
    · exact kNew_bd _ _ _ _ _
    · exact ih.1 t l j
    · exact vNew_bd _ _ _ _
    · exact ih.2 t l j

theorem memOf_congr (c : Cfg) {tk tk' : Nat → Nat} (n : Nat) (h : ∀ j, j < n → tk j = tk' j) : memOf c tk n = memOf c tk' n := by
  induction n with
  | zero => rfl
  | succ n ih => simp only [memOf]; rw [ih (fun j hj => h j (by omega)), h n (by omega)]

theorem xIn_congr (c : Cfg) {tk tk' : Nat → Nat} (p : Nat) (h : ∀ j, j ≤ p → tk j = tk' j) : xIn c tk p = xIn c tk' p := by
  funext l; unfold xIn; rw [memOf_congr c p (fun j hj => h j (by omega)), h p (Nat.le_refl _)]

theorem kOf_congr (c : Cfg) {tk tk' : Nat → Nat} (p : Nat) (h : ∀ j, j ≤ p → tk j = tk' j) : kOf c tk p = kOf c tk' p ∧ vOf c tk p = vOf c tk' p := by
  constructor
  · funext l; unfold kOf; rw [xIn_congr c p h]
  · funext l; unfold vOf; rw [xIn_congr c p h]

theorem xIn_bd (c : Cfg) (tk : Nat → Nat) (p l j : Nat) : -4095 ≤ xIn c tk p l j ∧ xIn c tk p l j ≤ 4095 := xAt_bd _ _ _ _ _ _ _
theorem kOf_bd (c : Cfg) (tk : Nat → Nat) (p l j : Nat) : -4095 ≤ kOf c tk p l j ∧ kOf c tk p l j ≤ 4095 := kNew_bd _ _ _ _ _
theorem vOf_bd (c : Cfg) (tk : Nat → Nat) (p l j : Nat) : -4095 ≤ vOf c tk p l j ∧ vOf c tk p l j ≤ 4095 := vNew_bd _ _ _ _

/-- The reference's rows: row 2 l: k of layer l; row 2 l + 1: v. -/
def rowOf (c : Cfg) (tk : Nat → Nat) (r t : Nat) : Nat → Int := if r % 2 = 0 then kOf c tk t (r / 2) else vOf c tk t (r / 2)

theorem rowOf_bd (c : Cfg) (tk : Nat → Nat) (r t j : Nat) : -4095 ≤ rowOf c tk r t j ∧ rowOf c tk r t j ≤ 4095 := by
  unfold rowOf; split
  · exact kOf_bd _ _ _ _ _
  · exact vOf_bd _ _ _ _ _

theorem headAt_congr {p : Nat} {sc sc' v v' : Nat → Int} (h : ∀ t, t ≤ p → sc t = sc' t) (h' : ∀ t, t ≤ p → v t = v' t) : headAt p sc v = headAt p sc' v' := by
  have ht : ∀ n, n ≤ p → maxTo sc n = maxTo sc' n := by
    intro n
    induction n with
    | zero => intro _; simp only [maxTo]; exact h 0 (by omega)
    | succ n ih => intro hn; simp only [maxTo]; rw [ih (by omega), h (n + 1) hn]
  have hs : ∀ t, t ≤ p → shareAt p sc t = shareAt p sc' t := fun t htp => by unfold shareAt; rw [ht p (Nat.le_refl _), h t htp]
  unfold headAt
  rw [sumTo_congr (fun j hj => by rw [hs j (by omega), h' j (by omega)]), sumTo_congr (fun j hj => hs j (by omega))]

/-- A layer looks at k and v up to the position alone. -/
theorem xNext_congr (c : Cfg) (l p : Nat) (x : Nat → Int) {kf kf' vf vf' : Nat → Nat → Int} (hk : ∀ t, t ≤ p → kf t = kf' t) (hv : ∀ t, t ≤ p → vf t = vf' t) : xNext c l p x kf vf = xNext c l p x kf' vf' := by
  have e : attOf c p (qNew c l p x) kf vf = attOf c p (qNew c l p x) kf' vf' := by
    funext i
    unfold attOf
    exact headAt_congr (fun t ht => by rw [hk t ht]) (fun t ht => by rw [hv t ht])
  unfold xNext; rw [e]

theorem xIn_succ (c : Cfg) (tk : Nat → Nat) (p l : Nat) : xIn c tk p (l + 1) = xNext c l p (xIn c tk p l) (fun t => kOf c tk t l) (fun t => vOf c tk t l) := by
  show xNext c l p _ _ _ = _
  refine xNext_congr c l p _ (fun t ht => ?_) (fun t ht => ?_)
  · by_cases e : t = p
    · subst e; rw [if_pos rfl]; rfl
    · rw [if_neg e, (memOf_at c tk p t (by omega)).1]
  · by_cases e : t = p
    · subst e; rw [if_pos rfl]; rfl
    · rw [if_neg e, (memOf_at c tk p t (by omega)).2]

end Go.Proofs.Ytaidjhlijadmiaa

/-
  The program's sequences: blocks of slots; tokens and cells of a sequence.
-/
namespace Go.Proofs.Ytaidjhlijadmiaa
open Go.RowKit
attribute [local go_sem ↓] Go.wp_at_zero Go.wp_at_succ

/-- k slots: the tokens from a position on, and what is kept of them. -/
def SlotsI (ok : Nat → Prop) (w : World) (v : Value) (c : Cfg) (T : List Nat) (from' k : Nat) : Prop :=
  ∃ (b cap : Nat) (arr : Array Value) (fr : Nat × Nat), v = .slice (some ⟨b, 0, none⟩) k cap ∧ k ≤ cap ∧ cap ≤ maxLen ∧ w.heap[b]? = some (.cells arr 127 fr) ∧
    ∀ j, j < k → arr[j * 2]? = some (.int .i64 (tkI T (from' + j))) ∧ ∃ cv, arr[j * 2 + 1]? = some cv ∧ CellI ok w cv c.layers c.width (kOf c (tkN T) (from' + j)) (vOf c (tkN T) (from' + j))

/-- A block that holds them. -/
def BlockI (ok : Nat → Prop) (w : World) (B : Nat) (c : Cfg) (T : List Nat) (from' k : Nat) : Prop :=
  ∃ v, w.heap[B]? = some (.cells #[v] 90 (0, 0)) ∧ SlotsI ok w v c T from' k

/-- How many tokens lie ahead of a block's end. -/
def posOf (s n i : Nat) : Nat := min (i * s) n

/-- A sequence is its blocks. -/
def SeqI (ok : Nat → Prop) (w : World) (v : Value) (c : Cfg) (T : List Nat) (nb : Nat) (blk : Nat → Nat) : Prop :=
  (∃ (b cap : Nat) (arr : Array Value) (fr : Nat × Nat), v = .slice (some ⟨b, 0, none⟩) nb cap ∧ nb ≤ cap ∧ cap ≤ maxLen ∧ w.heap[b]? = some (.cells arr 78 fr) ∧ ∀ i, i < nb → arr[i]? = some (.pointer (some ⟨blk i, 0, none⟩))) ∧
  ∀ i, i < nb → BlockI ok w (blk i) c T (posOf c.slots T.length i) (posOf c.slots T.length (i + 1) - posOf c.slots T.length i)

theorem two_allocs (w : World) (o : Obj) (x : Value) (t : TypeId) : ∀ (j : Nat) (u : Value), [x][j]? = some u → ((w.alloc o).alloc (.cells #[x] t)).cell? ((⟨w.heap.size + 1, 0, none⟩ : Addr).add j) = some u := by
  intro j u hj
  have := one_new (w.alloc o) x t j u hj
  simpa using this

set_option maxRecDepth 100000 in
set_option maxHeartbeats 2000000 in
theorem tokens_any (ok : Nat → Prop) (c : Cfg) (T : List Nat) (nb : Nat) (blk : Nat → Nat) (vs : Value) (w : World) (h : SeqI ok w vs c T nb blk) (hs1 : 1 ≤ c.slots) (hs2 : c.slots ≤ 4) (hT : T.length ≤ 1000) (hnb : nb ≤ 1000) :
    Calls Try.prog 37 #[vs] w fun e w' => ∃ r, e = .returned r ∧ w'.ownsRow w.heap.size 3 1 r (posOf c.slots T.length nb) ((List.range (posOf c.slots T.length nb)).map fun j => .int .i64 (tkI T j)) ∧ Below w.heap.size w w' := by
  obtain ⟨i0, hi, hz0, hz1, hz2⟩ := info_parts Try.info_int
  obtain ⟨⟨bs, cs, ar, fs, rfl, h1, h2, h3, h4⟩, hb⟩ := h
  unfold maxLen at h2
  have Hb := hide hb
  have H4 := hide h4
  clear hb h4
  have hbs := lt_blk h3
  go_enter Try.func37, Try.ntmps37
  go_wp2
  go_loopw [3, 10] (fun o i wr => ∃ k : Nat, k ≤ nb ∧ i = .int .i64 k ∧ wr.ownsRow w.heap.size 3 1 o (posOf c.slots T.length k) ((List.range (posOf c.slots T.length k)).map fun j => .int .i64 (tkI T j)) ∧ Below w.heap.size w wr) (fun _ i _ => nb - (intOf i).toNat)
  case atStart => exact ⟨0, Nat.zero_le _, rfl, by unfold posOf; simpa using World.ownsRow_nil _ _ _ _, Below.refl _ _⟩
  case round =>
    obtain ⟨k, hk, rfl, hown, hbel⟩ := hrel
    by_cases hlt : k < nb
    · obtain ⟨vb, hvb, sb, sc, sa, sf, rfl, hs3, hs4, hs5, hs6⟩ := Hb.out k hlt
      unfold maxLen at hs4
      have cb : wr.cell? ⟨bs, k, none⟩ = some (.pointer (some ⟨blk k, 0, none⟩)) := by rw [hbel.cell (p := ⟨bs, k, none⟩) hbs, cell_blk h3]; exact H4.out k hlt
      have cv : wr.cell? ⟨blk k, 0, none⟩ = some (.slice (some ⟨sb, 0, none⟩) (posOf c.slots T.length (k + 1) - posOf c.slots T.length k) sc) := by rw [hbel.cell (p := ⟨blk k, 0, none⟩) (lt_blk hvb), cell_blk hvb]; rfl
      have hp1 : posOf c.slots T.length k ≤ posOf c.slots T.length (k + 1) := by unfold posOf; rw [Nat.add_mul]; omega
      have hp2 : posOf c.slots T.length (k + 1) ≤ 1000 := by unfold posOf; omega
      obtain ⟨p, ep⟩ : ∃ p, p = posOf c.slots T.length k := ⟨_, rfl⟩
      obtain ⟨p', ep'⟩ : ∃ p', p' = posOf c.slots T.length (k + 1) := ⟨_, rfl⟩
      rw [← ep, ← ep'] at hp1
      rw [← ep'] at hp2
      rw [← ep] at hown
      rw [← ep, ← ep'] at cv hs3 hs6
      have Hp' := hide ep'
      obtain ⟨q, eq⟩ : ∃ q, q = p' - p := ⟨_, rfl⟩
      rw [← eq] at cv hs3 hs6
      have Hs6 := hide hs6
      have hsb := lt_blk hs5
      clear ep ep' hs6
      have hqb : p + q = p' := by omega
      have Hq := hide hqb
      have hpq : p + q ≤ 1000 := by omega
      clear hqb eq
      go_wp2
      go_loopw [3, 19] (fun o i wr => ∃ j : Nat, j ≤ q ∧ i = .int .i64 j ∧ wr.ownsRow w.heap.size 3 1 o (p + j) ((List.range (p + j)).map fun j => .int .i64 (tkI T j)) ∧ Below w.heap.size w wr) (fun _ i _ => q - (intOf i).toNat)
      case atStart => exact ⟨0, Nat.zero_le _, rfl, hown, hbel⟩
      case round =>
        clear hown hbel cb cv
        obtain ⟨j, hj, rfl, hown, hbel⟩ := hrel
        have hsz := hbel.size
        by_cases hjq : j < q
        · obtain ⟨t1, cvv, t2, ⟨bc, cc, _, _, rfl, _⟩⟩ := Hs6.out j hjq
          have k1 : wr.cell? ⟨sb, j * 2, none⟩ = some (.int .i64 (tkI T (p + j))) := by rw [hbel.cell (p := ⟨sb, j * 2, none⟩) hsb, cell_blk hs5]; exact t1
          have k2 : wr.cell? ⟨sb, j * 2 + 1, none⟩ = some (.slice (some ⟨bc, 0, none⟩) c.layers cc) := by rw [hbel.cell (p := ⟨sb, j * 2 + 1, none⟩) hsb, cell_blk hs5]; exact t2
          clear t1 t2
          generalize htk : tkI T (p + j) = tk at k1
          have Htk := hide htk
          clear htk
          go_wp2_with (at_builtin; refine wpList_append_own _ rfl _ _ 36 rfl w.heap.size 3 i0 (.int .i64 0) 1 8 Try.underlying36 hi hz0 hz1 hz2 rfl (by decide) _ _ _ rfl ((hown.alloc _).alloc _) ⟨wr.heap.size + 1, 0, none⟩ 1 1 [.int .i64 tk] rfl rfl (two_allocs wr _ _ _) (one_int _) (by unfold maxLen; omega) (by omega) (by simp; omega) ?_; intro v1 w1 hown1 hgrow1 _)
          have hbel1 : Below w.heap.size w w1 := ((hbel.alloc hsz _).alloc (by simp; omega) _).grown hgrow1 (by simp; omega) (fun g hg => (hown.lt g hg).1)
          rw [← Htk.out, ← range_map_succ (fun j => Value.int .i64 (tkI T j))] at hown1
          clear hown hgrow1
          go_wp2
          go_roundw
          case rel => exact ⟨j + 1, by omega, by go_num, hown1, hbel1⟩
          case measure => simp [intOf]; omega
        · have hje : j = q := by omega
          subst hje
          go_wp2
          go_roundw
          case rel => exact ⟨k + 1, by omega, by go_num, by rw [← Hp'.out, ← Hq.out]; exact hown, hbel⟩
          case measure => simp [intOf]; omega
    · have hke : k = nb := by omega
      subst hke
      go_wp2
      go_ret
      exact ⟨_, rfl, hown, hbel⟩

theorem Try.info_cell : (Try.prog.info? 125).map (fun i => (i.zero, i.size, i.bytes)) = some (some (.slice none 0 0), 1, 24) := by kernel_rfl

/-- The cells of tokens, one behind the other. -/
def CellsI (base : Nat) (ok : Nat → Prop) (w : World) (v : Value) (c : Cfg) (T : List Nat) (n : Nat) : Prop :=
  ∃ xs : Nat → Value, w.ownsRow base 125 1 v n ((List.range n).map xs) ∧ ∀ t, t < n → CellI ok w (xs t) c.layers c.width (kOf c (tkN T) t) (vOf c (tkN T) t)

theorem CellsI.nil (base : Nat) (ok : Nat → Prop) (w : World) (c : Cfg) (T : List Nat) {n : Nat} (h : n = 0) : CellsI base ok w (.slice none 0 0) c T n := by
  subst h
  exact ⟨fun _ => undef, World.ownsRow_nil _ _ _ _, fun t ht => absurd ht (by omega)⟩

theorem CellsI.push {base : Nat} {ok : Nat → Prop} {w : World} {v x : Value} {c : Cfg} {T : List Nat} {n : Nat} {xs : Nat → Value} (h : w.ownsRow base 125 1 v (n + 1) ((List.range n).map xs ++ [x]))
    (hx : ∀ t, t < n → CellI ok w (xs t) c.layers c.width (kOf c (tkN T) t) (vOf c (tkN T) t)) (hn : CellI ok w x c.layers c.width (kOf c (tkN T) n) (vOf c (tkN T) n)) : CellsI base ok w v c T (n + 1) := by
  refine ⟨fun t => if t = n then x else xs t, ?_, fun t ht => ?_⟩
  · have e : (List.range (n + 1)).map (fun t => if t = n then x else xs t) = (List.range n).map xs ++ [x] := by
      rw [range_map_succ, if_pos rfl]
      congr 1
      apply List.map_congr_left
      intro i hi
      rw [if_neg (by have := List.mem_range.1 hi; omega)]
    rw [e]; exact h
  · by_cases e : t = n
    · subst e; simp only [if_true]; exact hn
    · simp only [if_neg e]; exact hx t (by omega)

set_option maxRecDepth 100000 in
set_option maxHeartbeats 2000000 in
theorem cells_any (ok : Nat → Prop) (c : Cfg) (T : List Nat) (nb : Nat) (blk : Nat → Nat) (vs : Value) (w : World) (h : SeqI ok w vs c T nb blk) (hs1 : 1 ≤ c.slots) (hs2 : c.slots ≤ 4) (hT : T.length ≤ 1000) (hnb : nb ≤ 1000) :
    Calls Try.prog 62 #[vs] w fun e w' => ∃ r, e = .returned r ∧ CellsI w.heap.size ok w' r c T (posOf c.slots T.length nb) ∧ Below w.heap.size w w' := by
  obtain ⟨i0, hi, hz0, hz1, hz2⟩ := info_parts Try.info_cell
  obtain ⟨⟨bs, cs, ar, fs, rfl, h1, h2, h3, h4⟩, hb⟩ := h
  unfold maxLen at h2
  have Hb := hide hb
  have H4 := hide h4
  clear hb h4
  have hbs := lt_blk h3
  go_enter Try.func62, Try.ntmps62
  go_wp2
  go_loopw [3, 10] (fun o i wr => ∃ k : Nat, k ≤ nb ∧ i = .int .i64 k ∧ CellsI w.heap.size ok wr o c T (posOf c.slots T.length k) ∧ Below w.heap.size w wr) (fun _ i _ => nb - (intOf i).toNat)
  case atStart => exact ⟨0, Nat.zero_le _, rfl, CellsI.nil _ _ _ _ _ (by unfold posOf; simp), Below.refl _ _⟩
  case round =>
    obtain ⟨k, hk, rfl, hown, hbel⟩ := hrel
    by_cases hlt : k < nb
    · obtain ⟨vb, hvb, sb, sc, sa, sf, rfl, hs3, hs4, hs5, hs6⟩ := Hb.out k hlt
      unfold maxLen at hs4
      have cb : wr.cell? ⟨bs, k, none⟩ = some (.pointer (some ⟨blk k, 0, none⟩)) := by rw [hbel.cell (p := ⟨bs, k, none⟩) hbs, cell_blk h3]; exact H4.out k hlt
      have cv : wr.cell? ⟨blk k, 0, none⟩ = some (.slice (some ⟨sb, 0, none⟩) (posOf c.slots T.length (k + 1) - posOf c.slots T.length k) sc) := by rw [hbel.cell (p := ⟨blk k, 0, none⟩) (lt_blk hvb), cell_blk hvb]; rfl
      have hp1 : posOf c.slots T.length k ≤ posOf c.slots T.length (k + 1) := by unfold posOf; rw [Nat.add_mul]; omega
      have hp2 : posOf c.slots T.length (k + 1) ≤ 1000 := by unfold posOf; omega
      obtain ⟨p, ep⟩ : ∃ p, p = posOf c.slots T.length k := ⟨_, rfl⟩
      obtain ⟨p', ep'⟩ : ∃ p', p' = posOf c.slots T.length (k + 1) := ⟨_, rfl⟩
      rw [← ep, ← ep'] at hp1
      rw [← ep'] at hp2
      rw [← ep] at hown
      rw [← ep, ← ep'] at cv hs3 hs6
      have Hp' := hide ep'
      obtain ⟨q, eq⟩ : ∃ q, q = p' - p := ⟨_, rfl⟩
      rw [← eq] at cv hs3 hs6
      have Hs6 := hide hs6
      have hsb := lt_blk hs5
      clear ep ep' hs6
      have hqb : p + q = p' := by omega
      have Hq := hide hqb
      have hpq : p + q ≤ 1000 := by omega
      clear hqb eq
      go_wp2
      go_loopw [3, 19] (fun o i wr => ∃ j : Nat, j ≤ q ∧ i = .int .i64 j ∧ CellsI w.heap.size ok wr o c T (p + j) ∧ Below w.heap.size w wr) (fun _ i _ => q - (intOf i).toNat)
      case atStart => exact ⟨0, Nat.zero_le _, rfl, hown, hbel⟩
      case round =>
        clear hown hbel cb cv
        obtain ⟨j, hj, rfl, hown, hbel⟩ := hrel
        have hsz := hbel.size
        by_cases hjq : j < q
        · obtain ⟨t1, cvv, t2, hC⟩ := Hs6.out j hjq
          obtain ⟨bc, cc, _, _, ecv, _⟩ := id hC
          subst ecv
          have k1 : wr.cell? ⟨sb, j * 2, none⟩ = some (.int .i64 (tkI T (p + j))) := by rw [hbel.cell (p := ⟨sb, j * 2, none⟩) hsb, cell_blk hs5]; exact t1
          have k2 : wr.cell? ⟨sb, j * 2 + 1, none⟩ = some (.slice (some ⟨bc, 0, none⟩) c.layers cc) := by rw [hbel.cell (p := ⟨sb, j * 2 + 1, none⟩) hsb, cell_blk hs5]; exact t2
          clear t1 t2
          generalize htk : tkI T (p + j) = tk at k1
          clear htk
          have HC := hide (hC.keep (KeepT.of_below hbel) (KeepT.of_below hbel))
          obtain ⟨xs, hown0, hxs⟩ := hown
          have Hxs := hide hxs
          clear hC hxs
          go_wp2_with (at_builtin; refine wpList_append_own _ rfl _ _ 122 rfl w.heap.size 125 i0 (.slice none 0 0) 1 24 Try.underlying122 hi hz0 hz1 hz2 rfl (by decide) _ _ _ rfl ((hown0.alloc _).alloc _) ⟨wr.heap.size + 1, 0, none⟩ 1 1 [.slice (some ⟨bc, 0, none⟩) c.layers cc] rfl rfl (two_allocs wr _ _ _) (by intro u hu; simp at hu; subst hu; rfl) (by unfold maxLen; omega) (by omega) (by simp; omega) ?_; intro v1 w1 hown1 hgrow1 _)
          have hbel1 : Below w.heap.size w w1 := ((hbel.alloc hsz _).alloc (by simp; omega) _).grown hgrow1 (by simp; omega) (fun g hg => (hown0.lt g hg).1)
          have kk : ∀ e : TypeId, e ≠ 125 → KeepT e wr w1 := fun e he => ((KeepT.alloc _ _).trans (KeepT.alloc _ _)).trans (KeepT.of_grown ((hown0.alloc _).alloc _) hgrow1 he)
          have hown2 := CellsI.push hown1 (fun t ht => (Hxs.out t ht).keep (kk _ (by decide)) (kk _ (by decide))) (HC.out.keep (kk _ (by decide)) (kk _ (by decide)))
          clear hown0 hgrow1 hown1 kk
          go_wp2
          go_roundw
          case rel => exact ⟨j + 1, by omega, by go_num, hown2, hbel1⟩
          case measure => simp [intOf]; omega
        · have hje : j = q := by omega
          subst hje
          go_wp2
          go_roundw
          case rel => exact ⟨k + 1, by omega, by go_num, by rw [← Hp'.out, ← Hq.out]; exact hown, hbel⟩
          case measure => simp [intOf]; omega
    · have hke : k = nb := by omega
      subst hke
      go_wp2
      go_ret
      exact ⟨_, rfl, hown, hbel⟩

end Go.Proofs.Ytaidjhlijadmiaa
