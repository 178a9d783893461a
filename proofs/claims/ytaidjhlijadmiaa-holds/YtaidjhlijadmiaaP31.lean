import Derived.Deep.RegionHeld3
import Derived.Test.YtaidjhlijadmiaaP30

/-
  The program's hoard, as it is read: Tokens, Logits.
-/
namespace Go.Proofs.Ytaidjhlijadmiaa
open Go.RowKit
attribute [local go_sem ↓] Go.wp_at_zero Go.wp_at_succ

/-- What lies at an id: the value of the first sequence that has it. -/
def seqAt (L : List (Int × List Nat)) (sv : Nat → Value) (id : Int) : Option Value := (L.findIdx? (fun x => x.1 == id)).map sv

/-- The hoard, for whoever reads it. -/
structure ReadI (ok : Nat → Prop) (w : World) (g : Parts) (c : Cfg) (L : List (Int × List Nat)) (sv : Nat → Value) (blk : Nat → Nat → Nat) : Prop where
  obj : ∃ arr : Array Value, w.heap[g.X]? = some (.cells arr 83 (0, 0)) ∧ arr[0]? = some (.int .i64 c.blocks) ∧ arr[1]? = some (.int .i64 c.slots) ∧ arr[2]? = some (.int .i64 c.layers) ∧ arr[5]? = some (.int .i64 c.vocab) ∧
    arr[7]? = some (.pointer (some ⟨g.M, 0, none⟩)) ∧ arr[8]? = some (.pointer (some ⟨g.PL, 0, none⟩)) ∧ arr[12]? = some (.map (some g.SM))
  model : ModelI w g.M c g.vE g.vH g.bL g.oL g.cL
  seqs : MapV Try.prog 3 w g.SM L.length (seqAt L sv)
  seq : ∀ i, i < L.length → SeqI ok w (sv i) c (toksAt L i) (nbOf c.slots (toksAt L i).length) (blk i)
  len : ∀ i, i < L.length → 1 ≤ (toksAt L i).length ∧ (toksAt L i).length ≤ 40
  toks : ∀ i, i < L.length → ∀ t ∈ toksAt L i, t < c.vocab

theorem posOf_all (s n : Nat) (hs : 1 ≤ s) : posOf s n (nbOf s n) = n := by
  unfold posOf
  have h : ¬ nbOf s n < nbOf s n := Nat.lt_irrefl _
  rw [nbOf_lt hs] at h
  omega

theorem nbOf_le (s n : Nat) (hs : 1 ≤ s) : nbOf s n ≤ n := by
  unfold nbOf
  have h1 : n + s - 1 < (n + 1) * s := by
    rw [Nat.add_mul]
    have : n * 1 ≤ n * s := Nat.mul_le_mul_left _ hs
    omega
  have := (Nat.div_lt_iff_lt_mul (by omega)).2 h1
  omega

theorem Try.zero_seq (w : World) : (zeroValue 73).run Try.prog w = .ok (.slice none 0 0) w := by
  have h : (Try.prog.info? 73).map (fun i => i.zero) = some (some (.slice none 0 0)) := by kernel_rfl
  cases hi : Try.prog.info? 73 with
  | none => rw [hi] at h; cases h
  | some i =>
    rw [hi] at h
    simp at h
    simp [zeroValue, typeInfo, hi, h, go_sem]

theorem seqAt_none {L : List (Int × List Nat)} {sv : Nat → Value} {id : Int} (h : ∀ i, i < L.length → idAt L i ≠ id) : seqAt L sv id = none := by
  unfold seqAt
  have : L.findIdx? (fun x => x.1 == id) = none := by
    rw [List.findIdx?_eq_none_iff]
    intro x hx
    obtain ⟨i, hi, e⟩ := List.getElem_of_mem hx
    have := h i hi
    unfold idAt at this
    rw [List.getD_eq_getElem?_getD] at this
    simp [hi, e] at this
    simpa using this
  rw [this]; rfl

theorem seqAt_some {L : List (Int × List Nat)} {sv : Nat → Value} {id : Int} {k : Nat} (hk : k < L.length) (he : idAt L k = id) (hf : ∀ j, j < k → idAt L j ≠ id) : seqAt L sv id = some (sv k) := by
  unfold seqAt
  have : L.findIdx? (fun x => x.1 == id) = some k := by
    rw [List.findIdx?_eq_some_iff_getElem]
    refine ⟨hk, ?_, fun j hj => ?_⟩
    · unfold idAt at he
      rw [List.getD_eq_getElem?_getD] at he
      simp [hk] at he
      simpa using he
    · have := hf j hj
      unfold idAt at this
      rw [List.getD_eq_getElem?_getD] at this
      simp [show j < L.length by omega] at this
      simpa using this
  rw [this]; rfl

theorem ReadI.look {ok : Nat → Prop} {w : World} {g : Parts} {c : Cfg} {L : List (Int × List Nat)} {sv : Nat → Value} {blk : Nat → Nat → Nat} (h : ReadI ok w g c L sv blk) (id : Int) (hid : -9223372036854775808 ≤ id ∧ id ≤ 9223372036854775807) :
    (Instr.lookup 81 (.map (some g.SM)) (.int .i64 id) true).run Try.prog w = .ok (.tuple #[(seqAt L sv id).getD (.slice none 0 0), .bool (seqAt L sv id).isSome]) w :=
  h.seqs.look Try.underlying3 Try.underlying81 (Try.zero_seq w) id (int_wf id hid.1 hid.2)

set_option maxRecDepth 100000 in
set_option maxHeartbeats 1000000 in
theorem htokens_none (ok : Nat → Prop) (g : Parts) (c : Cfg) (L : List (Int × List Nat)) (sv : Nat → Value) (blk : Nat → Nat → Nat) (id : Int) (w : World) (h : ReadI ok w g c L sv blk) (hid : -9223372036854775808 ≤ id ∧ id ≤ 9223372036854775807) (hno : ∀ i, i < L.length → idAt L i ≠ id) :
    Calls Try.prog 14 #[.pointer (some ⟨g.X, 0, none⟩), .int .i64 id] w fun e w' => e = .returned (.tuple #[.slice none 0 0, .int .i64 3]) ∧ w' = w := by
  obtain ⟨arr, o0, _, _, _, _, _, _, o7⟩ := h.obj
  have c12 : w.cell? ⟨g.X, 12, none⟩ = some (.map (some g.SM)) := by rw [cell_blk o0]; exact o7
  have hlook := h.look id hid
  rw [seqAt_none hno] at hlook
  simp only [Option.getD_none, Option.isSome_none] at hlook
  clear hno
  go_enter Try.func14, Try.ntmps14
  go_wp2
  go_ret2
  exact ⟨rfl, rfl⟩

set_option maxRecDepth 100000 in
set_option maxHeartbeats 1000000 in
theorem htokens_some (ok : Nat → Prop) (g : Parts) (c : Cfg) (hc : c.ok) (L : List (Int × List Nat)) (sv : Nat → Value) (blk : Nat → Nat → Nat) (id : Int) (k : Nat) (w : World) (h : ReadI ok w g c L sv blk) (hid : -9223372036854775808 ≤ id ∧ id ≤ 9223372036854775807) (hk : k < L.length) (he : idAt L k = id) (hf : ∀ j, j < k → idAt L j ≠ id) :
    Calls Try.prog 14 #[.pointer (some ⟨g.X, 0, none⟩), .int .i64 id] w fun e w' => ∃ r, e = .returned (.tuple #[r, .int .i64 0]) ∧ w'.ownsRow w.heap.size 3 1 r (toksAt L k).length ((List.range (toksAt L k).length).map fun j => .int .i64 (tkI (toksAt L k) j)) ∧ Below w.heap.size w w' := by
  obtain ⟨arr, o0, _, _, _, _, _, _, o7⟩ := h.obj
  obtain ⟨s1, s2⟩ := hc.slots
  have c12 : w.cell? ⟨g.X, 12, none⟩ = some (.map (some g.SM)) := by rw [cell_blk o0]; exact o7
  have hlook := h.look id hid
  rw [seqAt_some hk he hf] at hlook
  simp only [Option.getD_some, Option.isSome_some] at hlook
  have hl := (h.len k hk).2
  have hnb := nbOf_le c.slots (toksAt L k).length s1
  have htok := tokens_any ok c (toksAt L k) _ (blk k) (sv k) w (h.seq k hk) s1 s2 (by omega) (by omega)
  rw [posOf_all _ _ s1] at htok
  have Htok := hide htok
  clear htok he hf hid
  go_enter Try.func14, Try.ntmps14
  go_wp2_with fail
  refine Htok.out.mono ?_
  rintro e w1 ⟨r, rfl, hr, hb⟩
  go_wp2
  go_ret2
  exact ⟨r, rfl, hr, hb⟩

theorem CellI.mems {ok : Nat → Prop} {w : World} {v : Value} {L m : Nat} {kf vf : Nat → Nat → Int} (h : CellI ok w v L m kf vf) : Mems w v L m kf vf := by
  obtain ⟨b, cap, arr, fr, e, h1, h2, h3, h4⟩ := h
  refine ⟨_, cap, e, h1, h2, fun _ => ⟨b, 0, rfl, lt_blk h3, fun t ht => ?_⟩⟩
  obtain ⟨vk, vv, q1, q2, q3, q4, _, _⟩ := h4 t ht
  exact ⟨vk, vv, by rw [cell_blk h3]; simpa using q1, by rw [cell_blk h3]; simpa using q2, q3, q4⟩

theorem CellsI.below {base : Nat} {ok : Nat → Prop} {w w' : World} {v : Value} {c : Cfg} {T : List Nat} {n : Nat} (h : CellsI base ok w v c T n) (hb : Below w.heap.size w w') : CellsI base ok w' v c T n := by
  obtain ⟨xs, h1, h2⟩ := h
  exact ⟨xs, owns_below' h1 hb, fun t ht => (h2 t ht).keep (KeepT.of_below hb) (KeepT.of_below hb)⟩

theorem SeqI.below {ok : Nat → Prop} {w w' : World} {v : Value} {c : Cfg} {T : List Nat} {nb : Nat} {blk : Nat → Nat} (h : SeqI ok w v c T nb blk) (hb : Below w.heap.size w w') : SeqI ok w' v c T nb blk := by
  obtain ⟨⟨b, cap, arr, fr, e, h1, h2, h3, h4⟩, hk⟩ := h
  have kp : ∀ e : TypeId, KeepT e w w' := fun e => KeepT.of_below hb
  refine ⟨⟨b, cap, arr, fr, e, h1, h2, kp _ _ _ _ h3, h4⟩, fun i hi => ?_⟩
  obtain ⟨vb, q1, sb, sc, sa, sf, e2, q2, q3, q4, q5⟩ := hk i hi
  refine ⟨vb, kp _ _ _ _ q1, sb, sc, sa, sf, e2, q2, q3, kp _ _ _ _ q4, fun j hj => ?_⟩
  obtain ⟨t1, cv, t2, t3⟩ := q5 j hj
  exact ⟨t1, cv, t2, t3.keep (kp _) (kp _)⟩

/-- The first p cells, as what is past. -/
theorem CellsI.past {base : Nat} {ok : Nat → Prop} {w : World} {a : Option Addr} {n cap p : Nat} {c : Cfg} {T : List Nat} (h : CellsI base ok w (.slice a n cap) c T n) (hp : p ≤ n) : Past w (.slice a p cap) p c.layers c.width (memOf c (tkN T) p).1 (memOf c (tkN T) p).2 := by
  obtain ⟨xs, h1, h2⟩ := h
  refine ⟨xs, ?_, fun t ht => ?_⟩
  · obtain ⟨a', c', e, q1, q2, q3⟩ := Row.of_owns h1
    injection e with e1 _ e3
    subst e1 e3
    refine ⟨a, cap, rfl, by omega, q2, fun h0 => ?_⟩
    obtain ⟨b, off, e, hb, hc⟩ := q3 (by omega)
    exact ⟨b, off, e, hb, fun j hj => hc j (by omega)⟩
  · obtain ⟨m1, m2⟩ := memOf_at c (tkN T) p t ht
    rw [m1, m2]
    exact (h2 t (by omega)).mems

set_option maxRecDepth 100000 in
set_option maxHeartbeats 1000000 in
theorem hlogits_none (ok : Nat → Prop) (g : Parts) (c : Cfg) (L : List (Int × List Nat)) (sv : Nat → Value) (blk : Nat → Nat → Nat) (id : Int) (w : World) (h : ReadI ok w g c L sv blk) (hid : -9223372036854775808 ≤ id ∧ id ≤ 9223372036854775807) (hno : ∀ i, i < L.length → idAt L i ≠ id) :
    Calls Try.prog 51 #[.pointer (some ⟨g.X, 0, none⟩), .int .i64 id] w fun e w' => e = .returned (.tuple #[.slice none 0 0, .int .i64 3]) ∧ w' = w := by
  obtain ⟨arr, o0, _, _, _, _, _, _, o7⟩ := h.obj
  have c12 : w.cell? ⟨g.X, 12, none⟩ = some (.map (some g.SM)) := by rw [cell_blk o0]; exact o7
  have hlook := h.look id hid
  rw [seqAt_none hno] at hlook
  simp only [Option.getD_none, Option.isSome_none] at hlook
  clear hno
  go_enter Try.func51, Try.ntmps51
  go_wp2
  go_ret2
  exact ⟨rfl, rfl⟩

set_option maxRecDepth 100000 in
set_option maxHeartbeats 2000000 in
theorem hlogits_some (ok : Nat → Prop) (g : Parts) (c : Cfg) (hc : c.ok) (L : List (Int × List Nat)) (sv : Nat → Value) (blk : Nat → Nat → Nat) (id : Int) (k : Nat) (w : World) (h : ReadI ok w g c L sv blk) (hid : -9223372036854775808 ≤ id ∧ id ≤ 9223372036854775807) (hk : k < L.length) (he : idAt L k = id) (hf : ∀ j, j < k → idAt L j ≠ id) :
    Calls Try.prog 51 #[.pointer (some ⟨g.X, 0, none⟩), .int .i64 id] w fun e w' => ∃ b, e = .returned (.tuple #[.slice (some ⟨b, 0, none⟩) c.vocab c.vocab, .int .i64 0]) ∧
      OwnI w.heap.size w' b c.vocab c.vocab (logitsOf c (xIn c (tkN (toksAt L k)) ((toksAt L k).length - 1) c.layers)) ∧ Below w.heap.size w w' := by
  obtain ⟨arr, o0, _, _, _, _, o5, _, o7⟩ := h.obj
  obtain ⟨s1, s2⟩ := hc.slots
  have hXl := lt_blk o0
  have c12 : w.cell? ⟨g.X, 12, none⟩ = some (.map (some g.SM)) := by rw [cell_blk o0]; exact o7
  have c7 : w.cell? ⟨g.X, 7, none⟩ = some (.pointer (some ⟨g.M, 0, none⟩)) := by rw [cell_blk o0]; exact o5
  have hlook := h.look id hid
  rw [seqAt_some hk he hf] at hlook
  simp only [Option.getD_some, Option.isSome_some] at hlook
  obtain ⟨l1, hl⟩ := h.len k hk
  have hnb := nbOf_le c.slots (toksAt L k).length s1
  have hlt : tkN (toksAt L k) ((toksAt L k).length - 1) < c.vocab := by
    refine h.toks k hk _ ?_
    unfold tkN
    rw [List.getD_eq_getElem?_getD]
    simp [show (toksAt L k).length - 1 < (toksAt L k).length by omega]
  have htok := tokens_any ok c (toksAt L k) _ (blk k) (sv k) w (h.seq k hk) s1 s2 (by omega) (by omega)
  rw [posOf_all _ _ s1] at htok
  have Htok := hide htok
  have Hseq := hide (h.seq k hk)
  clear htok he hf hid
  generalize toksAt L k = T at Htok Hseq l1 hl hnb hlt
  obtain ⟨n', en⟩ : ∃ n', n' = T.length - 1 := ⟨_, rfl⟩
  rw [← en] at hlt ⊢
  have hsub : (T.length : Int) - 1 = n' := by omega
  have hn1 : n' < T.length := by omega
  clear en
  go_enter Try.func51, Try.ntmps51
  go_wp2_with fail
  refine Htok.out.mono ?_
  rintro e w1 ⟨r, rfl, hr, hb⟩
  have hcell := cells_any ok c T _ (blk k) (sv k) w1 (Hseq.out.below hb) s1 s2 (by omega) (by omega)
  rw [posOf_all _ _ s1] at hcell
  have Hcell := hide hcell
  clear hcell Htok Hseq
  go_wp2_with fail
  refine Hcell.out.mono ?_
  rintro e w2 ⟨rc, rfl, hrc, hb2⟩
  clear Hcell
  rcases OwnI.of_owns (owns_below' hr hb2) with ⟨_, h0⟩ | ⟨b8, c8, er, ho8⟩
  · omega
  subst er
  have t8 := ho8.cell n' (by omega)
  obtain ⟨a9, c9, e9⟩ : ∃ a cap, rc = .slice a T.length cap := by
    obtain ⟨xs, ⟨_, ⟨e, q⟩ | ⟨g, cap, cur, e, _⟩⟩, _⟩ := hrc
    · exact ⟨none, 0, by rw [e, q]⟩
    · exact ⟨_, cap, e⟩
  subst e9
  have hcap9 : T.length ≤ c9 ∧ c9 ≤ 9223372036854775807 := by
    obtain ⟨xs, ⟨_, ⟨e, q⟩ | ⟨g, cap, cur, e, _, _, q1, q2, _⟩⟩, _⟩ := hrc
    · omega
    · injection e with _ _ e
      unfold maxLen at q2
      omega
  have hpast := hrc.past (p := n') (by omega)
  have hB2 := hb.trans (hb2.mono hb.size)
  have c72 := (hB2.cell (p := ⟨g.X, 7, none⟩) hXl).trans c7
  have hM2 := h.model.below hB2
  have htkv : tkI T n' = ((tkN T n' : Nat) : Int) := rfl
  rw [htkv] at t8
  have hX2 : g.X < w2.heap.size := by have := hB2.size; omega
  have h82 := ho8.lt
  have Hpast := hide hpast
  have hBn : Below w2.heap.size w2 w2 := Below.refl _ _
  clear hpast htkv hrc hr ho8 c7 c12 hlook
  generalize htk : tkN T n' = tk at t8 hlt
  have Htk := hide htk
  clear htk
  have i1 : (0 : Int) ≤ (n' : Int) := by omega
  have i2 : (n' : Int) < (T.length : Int) := by omega
  have i3 : (n' : Int) ≤ (c9 : Int) := by omega
  have i4 : n' ≤ c9 := by omega
  go_wp2_with fail
  go_region_held3 (fun w' => w'.cell? ⟨g.X, 7, none⟩ = some (.pointer (some ⟨g.M, 0, none⟩)) ∧ w'.cell? ⟨b8, n', none⟩ = some (.int .i64 tk))
    (exact ⟨(hBn.cell (p := ⟨g.X, 7, none⟩) hX2).trans c72, (hBn.cell (p := ⟨b8, n', none⟩) h82).trans t8⟩)
    (first
      | (go_at_call 67; refine (pass_any c hc g.M tk n' _ g.vE g.vH g.bL g.oL g.cL (memOf c (tkN T) n').1 (memOf c (tkN T) n').2 _ (by exact hM2.below ((Below.refl _ _).drew)) (by exact Hpast.out.below ((Below.refl _ _).drew)) hlt (by omega) (memOf_bd c (tkN T) n').1 (memOf_bd c (tkN T) n').2).mono ?_; rintro e w3 ⟨vx, cellv, rfl, hx, _, hb3⟩; replace hb3 := below_of_drewN (k := 1) hb3; replace hBn := hBn.trans (hb3.mono hBn.size)))
  have c73 := (hBn.cell (p := ⟨g.X, 7, none⟩) hX2).trans c72
  have hB3 := hB2.trans (hBn.mono hB2.size)
  have hM3 := h.model.below hB3
  have hx' : IntsT w3 vx c.width (xIn c (tkN T) n' c.layers) := by unfold xIn; rw [Htk.out]; exact hx
  have Hx := hide hx'
  clear hx hx' hM2 c72 t8 Hpast hb2 hb hb3
  go_wp2_with fail
  refine (dlogits_any c hc g.M vx g.vE g.vH g.bL g.oL g.cL _ w3 hM3 Hx.out (xIn_bd _ _ _ _)).mono ?_
  rintro e w4 ⟨b9, rfl, ho9, hb4⟩
  go_wp2
  go_ret2
  exact ⟨b9, rfl, ho9.mono hB3.size, hB3.trans (hb4.mono hB3.size)⟩

end Go.Proofs.Ytaidjhlijadmiaa

/-
  The program's Kept.
-/
namespace Go.Proofs.Ytaidjhlijadmiaa
open Go.RowKit
attribute [local go_sem ↓] Go.wp_at_zero Go.wp_at_succ

set_option maxRecDepth 100000 in
set_option maxHeartbeats 1000000 in
theorem hkept_none (ok : Nat → Prop) (g : Parts) (c : Cfg) (L : List (Int × List Nat)) (sv : Nat → Value) (blk : Nat → Nat → Nat) (id lay pos : Int) (w : World) (h : ReadI ok w g c L sv blk) (hid : -9223372036854775808 ≤ id ∧ id ≤ 9223372036854775807) (hno : ∀ i, i < L.length → idAt L i ≠ id) :
    Calls Try.prog 54 #[.pointer (some ⟨g.X, 0, none⟩), .int .i64 id, .int .i64 lay, .int .i64 pos] w fun e w' => e = .returned (.tuple #[.slice none 0 0, .slice none 0 0, .int .i64 3]) ∧ w' = w := by
  obtain ⟨arr, o0, _, _, _, _, _, _, o7⟩ := h.obj
  have c12 : w.cell? ⟨g.X, 12, none⟩ = some (.map (some g.SM)) := by rw [cell_blk o0]; exact o7
  have hlook := h.look id hid
  rw [seqAt_none hno] at hlook
  simp only [Option.getD_none, Option.isSome_none] at hlook
  clear hno
  go_enter Try.func54, Try.ntmps54
  go_wp2
  exact bodyPost_ret (v := .tuple #[.slice none 0 0, .slice none 0 0, .int .i64 3]) (by simp [results, Try.results54]) rfl ⟨rfl, rfl⟩

set_option maxRecDepth 100000 in
set_option maxHeartbeats 2000000 in
theorem hkept_some (ok : Nat → Prop) (g : Parts) (c : Cfg) (hc : c.ok) (L : List (Int × List Nat)) (sv : Nat → Value) (blk : Nat → Nat → Nat) (id lay pos : Int) (k : Nat) (w : World) (h : ReadI ok w g c L sv blk) (hid : -9223372036854775808 ≤ id ∧ id ≤ 9223372036854775807) (hk : k < L.length) (he : idAt L k = id) (hf : ∀ j, j < k → idAt L j ≠ id) (hin : (0 ≤ lay ∧ lay < c.layers) ∧ (0 ≤ pos ∧ pos < (toksAt L k).length)) :
    Calls Try.prog 54 #[.pointer (some ⟨g.X, 0, none⟩), .int .i64 id, .int .i64 lay, .int .i64 pos] w fun e w' => Below w.heap.size w w' ∧ ∃ r1 r2 B2, e = .returned (.tuple #[r1, r2, .int .i64 0]) ∧ w.heap.size ≤ B2 ∧
         w'.ownsRow w.heap.size 3 1 r1 c.width ((List.range c.width).map fun j => .int .i64 (kOf c (tkN (toksAt L k)) pos.toNat lay.toNat j)) ∧ (∀ b, r1.ownBlock = some b → b < B2) ∧
         w'.ownsRow B2 3 1 r2 c.width ((List.range c.width).map fun j => .int .i64 (vOf c (tkN (toksAt L k)) pos.toNat lay.toNat j)) := by
  obtain ⟨arr, o0, _, _, o2, _, _, _, o7⟩ := h.obj
  obtain ⟨s1, s2⟩ := hc.slots
  obtain ⟨w1', w2'⟩ := c.width_bd hc
  obtain ⟨y1, y2⟩ := hc.layers
  have hXl := lt_blk o0
  have c12 : w.cell? ⟨g.X, 12, none⟩ = some (.map (some g.SM)) := by rw [cell_blk o0]; exact o7
  have c2 : w.cell? ⟨g.X, 2, none⟩ = some (.int .i64 c.layers) := by rw [cell_blk o0]; exact o2
  have hlook := h.look id hid
  rw [seqAt_some hk he hf] at hlook
  simp only [Option.getD_some, Option.isSome_some] at hlook
  obtain ⟨l1, hl⟩ := h.len k hk
  have hnb := nbOf_le c.slots (toksAt L k).length s1
  have hcell := cells_any ok c (toksAt L k) _ (blk k) (sv k) w (h.seq k hk) s1 s2 (by omega) (by omega)
  rw [posOf_all _ _ s1] at hcell
  have Hcell := hide hcell
  clear hcell he hf hid
  generalize toksAt L k = T at Hcell l1 hl hnb hin
  · obtain ⟨⟨i1, i2⟩, i3, i4⟩ := hin
    obtain ⟨ln, rfl⟩ : ∃ ln : Nat, lay = ln := ⟨lay.toNat, by omega⟩
    obtain ⟨pn, rfl⟩ : ∃ pn : Nat, pos = pn := ⟨pos.toNat, by omega⟩
    have i5 : (pn : Int) ≤ (T.length : Int) - 1 := by omega
    have i6 : (ln : Int) ≤ (c.layers : Int) - 1 := by omega
    have hd1 : decide ((pn : Int) ≤ (T.length : Int) - 1) = true := by simpa using i5
    have hd2 : decide ((0 : Int) ≤ (pn : Int)) = true := by simp
    have hd3 : decide ((ln : Int) ≤ (c.layers : Int) - 1) = true := by simpa using i6
    go_enter Try.func54, Try.ntmps54
    go_wp2_with fail
    refine Hcell.out.mono ?_
    rintro e w1 ⟨rc, rfl, hrc, hb1⟩
    obtain ⟨xs, hown, hxs⟩ := hrc
    obtain ⟨b9, c9, e9, hb9, _⟩ := hown.form (by omega)
    subst e9
    have hpn : pn < T.length := by omega
    have hcl := hown.cells (g := b9) rfl pn (xs pn) (by simp [hpn])
    have e1 : (⟨b9, 0, none⟩ : Addr).add pn = ⟨b9, pn, none⟩ := by unfold Addr.add; split <;> simp_all
    rw [e1] at hcl
    obtain ⟨bc, cc, ac, fc, ec, q1, q2, q3, q4⟩ := hxs pn hpn
    rw [ec] at hcl
    obtain ⟨vk, vv, r1, r2, r3, r4, _, _⟩ := q4 ln (by omega)
    have k1 : w1.cell? ⟨bc, ln * 2, none⟩ = some vk := by rw [cell_blk q3]; exact r1
    have k2 : w1.cell? ⟨bc, ln * 2 + 1, none⟩ = some vv := by rw [cell_blk q3]; exact r2
    have r3' := r3
    have r4' := r4
    obtain ⟨ak, ck, ek, _⟩ := r3'
    obtain ⟨av, cv, ev, _⟩ := r4'
    subst ek ev
    have c21 := (hb1.cell (p := ⟨g.X, 2, none⟩) hXl).trans c2
    have cap9 : (T.length : Int) ≤ c9 := by
      obtain ⟨_, ⟨e, _⟩ | ⟨g', cap', cur', e, _, _, z1, _⟩⟩ := hown
      · cases e
      · injection e with _ _ e
        omega
    have capc : (c.layers : Int) ≤ cc := by omega
    have R3 := hide r3
    have R4 := hide r4
    have hbB : Below w1.heap.size w1 (w1.alloc (.cells #[.slice ak c.width ck, .slice av c.width cv] 147)) := (Below.refl _ _).alloc (Nat.le_refl _) _
    have hnew := alloc_new w1 (.cells #[.slice ak c.width ck, .slice av c.width cv] 147)
    clear hlook c12 c2 Hcell r3 r4 q4 hxs r1 r2 e1
    go_wp2_with (go_at_call 59; refine Calls_use (within_any _ _ _ _) ?_)
    obtain ⟨Wb, hWb⟩ : ∃ Wb, Wb = w1.alloc (.cells #[.slice ak c.width ck, .slice av c.width cv] 147) := ⟨_, rfl⟩
    rw [← hWb] at hbB hnew ⊢
    have m0 : Wb.cell? ⟨w1.heap.size, 0, none⟩ = some (.slice ak c.width ck) := by rw [cell_blk hnew]; rfl
    have m1 : Wb.cell? ⟨w1.heap.size, 1, none⟩ = some (.slice av c.width cv) := by rw [cell_blk hnew]; rfl
    have hlb := lt_blk hnew
    have hK : IntsT Wb (.slice ak c.width ck) c.width (kOf c (tkN T) pn ln) := R3.out.keep (KeepT.of_below hbB)
    have hV : IntsT Wb (.slice av c.width cv) c.width (vOf c (tkN T) pn ln) := R4.out.keep (KeepT.of_below hbB)
    have hBn : Below Wb.heap.size Wb Wb := Below.refl _ _
    have hBw : Below w.heap.size w Wb := hb1.trans (hbB.mono hb1.size)
    clear hWb hnew R3 R4 hown q3 k1 k2 hcl
    go_region_held3 (fun w' => w'.cell? ⟨w1.heap.size, 0, none⟩ = some (.slice ak c.width ck) ∧ w'.cell? ⟨w1.heap.size, 1, none⟩ = some (.slice av c.width cv))
      (exact ⟨(hBn.cell (p := ⟨w1.heap.size, 0, none⟩) hlb).trans m0, (hBn.cell (p := ⟨w1.heap.size, 1, none⟩) hlb).trans m1⟩)
      (first
        | (go_at_call 73; refine (clone_any c.width (.slice ak c.width ck) _ _ (by exact hK) (by omega) (by omega)).mono ?_; rintro e w3 ⟨rk, rfl, hrk, hb3⟩; replace hb3 := below_of_drewN (k := 1) hb3; replace hBn := hBn.trans (hb3.mono hBn.size))
        | (go_at_call 73; refine (clone_any c.width (.slice av c.width cv) _ _ (hV.keep (KeepT.of_below hBn)) (by omega) (by omega)).mono ?_; rintro e w4 ⟨rv, rfl, hrv, hb4⟩; replace hBn := hBn.trans (hb4.mono hBn.size)))
    have hsz := hBw.size
    have hsz3 := hb3.size
    go_wp2
    refine bodyPost_ret (v := .tuple #[rk, rv, .int .i64 0]) (by simp [results, Try.results54]) rfl ⟨hBw.trans (hBn.mono hBw.size), rk, rv, w3.heap.size, rfl, by omega, ?_, fun b hb => (hrk.lt b hb).2, ?_⟩
    · have q := owns_base (owns_below' hrk hb4) (show w.heap.size ≤ Wb.heap.size from hsz)
      simpa using q
    · simpa using hrv

set_option maxRecDepth 100000 in
set_option maxHeartbeats 2000000 in
theorem hkept_arg (ok : Nat → Prop) (g : Parts) (c : Cfg) (hc : c.ok) (L : List (Int × List Nat)) (sv : Nat → Value) (blk : Nat → Nat → Nat) (id lay pos : Int) (k : Nat) (w : World) (h : ReadI ok w g c L sv blk) (hid : -9223372036854775808 ≤ id ∧ id ≤ 9223372036854775807) (hk : k < L.length) (he : idAt L k = id) (hf : ∀ j, j < k → idAt L j ≠ id) (hin : ¬ ((0 ≤ lay ∧ lay < c.layers) ∧ (0 ≤ pos ∧ pos < (toksAt L k).length))) :
    Calls Try.prog 54 #[.pointer (some ⟨g.X, 0, none⟩), .int .i64 id, .int .i64 lay, .int .i64 pos] w fun e w' => Below w.heap.size w w' ∧ e = .returned (.tuple #[.slice none 0 0, .slice none 0 0, .int .i64 1]) := by
  obtain ⟨arr, o0, _, _, o2, _, _, _, o7⟩ := h.obj
  obtain ⟨s1, s2⟩ := hc.slots
  obtain ⟨y1, y2⟩ := hc.layers
  have hXl := lt_blk o0
  have c12 : w.cell? ⟨g.X, 12, none⟩ = some (.map (some g.SM)) := by rw [cell_blk o0]; exact o7
  have c2 : w.cell? ⟨g.X, 2, none⟩ = some (.int .i64 c.layers) := by rw [cell_blk o0]; exact o2
  have hlook := h.look id hid
  rw [seqAt_some hk he hf] at hlook
  simp only [Option.getD_some, Option.isSome_some] at hlook
  obtain ⟨l1, hl⟩ := h.len k hk
  have hnb := nbOf_le c.slots (toksAt L k).length s1
  have hcell := cells_any ok c (toksAt L k) _ (blk k) (sv k) w (h.seq k hk) s1 s2 (by omega) (by omega)
  rw [posOf_all _ _ s1] at hcell
  have Hcell := hide hcell
  clear hcell he hf hid
  generalize toksAt L k = T at Hcell l1 hl hnb hin
  go_enter Try.func54, Try.ntmps54
  go_wp2_with fail
  refine Hcell.out.mono ?_
  rintro e w1 ⟨rc, rfl, hrc, hb1⟩
  obtain ⟨xs, hown, _⟩ := hrc
  obtain ⟨b9, c9, e9, hb9, _⟩ := hown.form (by omega)
  subst e9
  have c21 := (hb1.cell (p := ⟨g.X, 2, none⟩) hXl).trans c2
  have Hin := hide hin
  clear hlook c12 c2 Hcell hin hown
  by_cases z1 : lay < 0
  · have d1 : decide (0 ≤ lay) = false := by simp; omega
    go_wp2_with (go_at_call 59; refine Calls_use (within_any _ _ _ _) ?_)
    exact bodyPost_ret (v := .tuple #[.slice none 0 0, .slice none 0 0, .int .i64 1]) (by simp [results, Try.results54]) rfl ⟨hb1, rfl⟩
  · have d1 : decide (0 ≤ lay) = true := by simp; omega
    by_cases z2 : (c.layers : Int) ≤ lay
    · have d2 : decide (lay ≤ (c.layers : Int) - 1) = false := by simp; omega
      go_wp2_with (go_at_call 59; refine Calls_use (within_any _ _ _ _) ?_)
      exact bodyPost_ret (v := .tuple #[.slice none 0 0, .slice none 0 0, .int .i64 1]) (by simp [results, Try.results54]) rfl ⟨hb1, rfl⟩
    · have d2 : decide (lay ≤ (c.layers : Int) - 1) = true := by simp; omega
      by_cases z3 : pos < 0
      · have d3 : decide (0 ≤ pos) = false := by simp; omega
        go_wp2_with (go_at_call 59; refine Calls_use (within_any _ _ _ _) ?_)
        exact bodyPost_ret (v := .tuple #[.slice none 0 0, .slice none 0 0, .int .i64 1]) (by simp [results, Try.results54]) rfl ⟨hb1, rfl⟩
      · have z4 : (T.length : Int) ≤ pos := by
          have := Hin.out
          omega
        have d3 : decide (0 ≤ pos) = true := by simp; omega
        have d4 : decide (pos ≤ (T.length : Int) - 1) = false := by simp; omega
        go_wp2_with (go_at_call 59; refine Calls_use (within_any _ _ _ _) ?_)
        exact bodyPost_ret (v := .tuple #[.slice none 0 0, .slice none 0 0, .int .i64 1]) (by simp [results, Try.results54]) rfl ⟨hb1, rfl⟩

end Go.Proofs.Ytaidjhlijadmiaa
