import Derived.BigQuiet
import Derived.Deep.QuietTactic
import Derived.Deep.Cut
import Derived.Test.YtaidjhlijadmiaaP12
import Derived.Test.YtaidjhlijadmiaaP17
import Derived.Test.YtaidjhlijadmiaaP18
import Derived.Test.YtaidjhlijadmiaaP29

/-
  The statements' kept; the book that they keep, and its looks.
-/
namespace Go.Proofs.Ytaidjhlijadmiaa
open Go.RowKit
attribute [local go_sem ↓] Go.wp_at_zero Go.wp_at_succ

set_option maxRecDepth 100000 in
theorem kept_nil (w : World) : Calls Try.prog 46 #[.slice none 0 0, .slice none 0 0] w fun e w' => e = .returned (.bool true) ∧ w' = w := by
  have hnil := fun w a n c n' c' => Go.Lib.run_eql_slice_nil (P := Try.prog) w 36 3 a n c n' c' Try.underlying36
  go_enter Try.func46, Try.ntmps46
  go_wp2
  go_ret
  exact ⟨rfl, rfl⟩

set_option maxRecDepth 100000 in
set_option maxHeartbeats 1000000 in
theorem kept_any (n g c cap : Nat) (a : Addr) (f : Nat → Int) (w : World) (hr : IntsT w (.slice (some ⟨g, 0, none⟩) (n + 8) c) (n + 8) (marked n f)) (hl : ∀ j, j < n → a.spot = none ∧ w.cell? ⟨a.block, a.off + j, none⟩ = some (.int .i64 (f j))) (hn : n * 8 ≤ 140737488351232) (hc : n + 8 ≤ c) :
    Calls Try.prog 46 #[.slice (some ⟨g, 0, none⟩) n c, .slice (some a) n cap] w fun e w' => e = .returned (.bool true) ∧ w' = w := by
  have hnil := fun w a n c n' c' => Go.Lib.run_eql_slice_nil (P := Try.prog) w 36 3 a n c n' c' Try.underlying36
  obtain ⟨b', o', e, hb, hcell⟩ : ∃ b' o', some (⟨g, 0, none⟩ : Addr) = some ⟨b', o', none⟩ ∧ b' < w.heap.size ∧ ∀ j, j < n + 8 → w.cell? ⟨b', o' + j, none⟩ = some (.int .i64 (marked n f j)) := by
    obtain ⟨a', c', e, _, _, h3⟩ := hr.ints
    injection e with e1 _ _
    obtain ⟨b1, o1, e2, r⟩ := h3 (by omega)
    exact ⟨b1, o1, by rw [e1, e2], r⟩
  injection e with e
  injection e with e1 e2 e3
  subst e1 e2
  have hcm : c ≤ 9223372036854775807 := by
    obtain ⟨_, _, e, _, h2, _⟩ := hr
    injection e with _ _ e
    unfold maxLen at h2
    omega
  have Hcell := hide hcell
  have Hl := hide hl
  clear hcell hl hr
  go_enter Try.func46, Try.ntmps46
  go_wp2
  go_loop [6] (fun i => ∃ k : Nat, k ≤ n + 8 ∧ i = .int .i64 k) (fun i => n + 8 - (intOf i).toNat)
  case atStart => exact ⟨0, Nat.zero_le _, rfl⟩
  case round =>
    obtain ⟨k, hk, rfl⟩ := hrel
    by_cases hlt : k < n + 8
    · have c1 := Hcell.out k hlt
      simp only [Nat.zero_add] at c1
      by_cases hkn : k < n
      · obtain ⟨sp, c2⟩ := Hl.out k hkn
        obtain ⟨b, off, spot⟩ := a
        simp only at sp c2
        subst sp
        have hm : marked n f k = f k := by unfold marked; rw [if_pos hkn]
        rw [hm] at c1
        clear hm
        generalize f k = x at c1 c2
        have hne : (x != x) = false := by simp
        go_wp2
        go_round
        case rel => exact ⟨k + 1, by omega, by go_num⟩
        case measure => simp [intOf]; omega
      · have hm : marked n f k = -77 := by unfold marked; rw [if_neg hkn]
        rw [hm] at c1
        clear hm
        go_wp2
        go_round
        case rel => exact ⟨k + 1, by omega, by go_num⟩
        case measure => simp [intOf]; omega
    · go_wp2
      go_ret
      exact ⟨rfl, rfl⟩

/-- A slice that holds one mark throughout. -/
def MarkT (w : World) (v : Value) (m : Int) : Prop := ∃ n, IntsT w v n (fun _ => m)

theorem MarkT.keep {w w' : World} {v : Value} {m : Int} (h : MarkT w v m) (hk : KeepT 3 w w') : MarkT w' v m := by
  obtain ⟨n, h⟩ := h
  exact ⟨n, h.keep hk⟩

/-- What the book keeps of a list: the list, and what append makes of it. -/
def EntryI (w : World) (v : Value) (m : Int) : Prop :=
  ∃ (b : Nat) (s : Nat → Value) (fr : Nat × Nat), v = .slice (some ⟨b, 0, none⟩) 4 4 ∧ w.heap[b]? = some (.cells #[s 0, s 1, s 2, s 3] 36 fr) ∧ ∀ k, k < 4 → MarkT w (s k) m

theorem EntryI.keep {w w' : World} {v : Value} {m : Int} (h : EntryI w v m) (h1 : KeepT 36 w w') (h2 : KeepT 3 w w') : EntryI w' v m := by
  obtain ⟨b, s, fr, e, hb, hs⟩ := h
  exact ⟨b, s, fr, e, h1 _ _ _ hb, fun k hk => (hs k hk).keep h2⟩

/-- The book lies at B, with n entries. -/
def BookI (w : World) (B n : Nat) (vl : Value) : Prop :=
  w.heap[B]? = some (.cells #[vl] 35 (0, 0)) ∧ ∃ es : Nat → Value, w.ownsRow 0 62 1 vl n ((List.range n).map es) ∧ ∀ i, i < n → EntryI w (es i) (-700000000 - (i : Int))

theorem BookI.keep {w w' : World} {B n : Nat} {vl : Value} (h : BookI w B n vl) (h0 : KeepT 35 w w') (h1 : KeepT 62 w w') (h2 : KeepT 36 w w') (h3 : KeepT 3 w w') : BookI w' B n vl := by
  obtain ⟨hB, es, hrow, hes⟩ := h
  refine ⟨h0 _ _ _ hB, es, ?_, fun i hi => (hes i hi).keep h2 h3⟩
  obtain ⟨q1, q2 | ⟨g, cap, cur, e', hg, hh, rest⟩⟩ := hrow
  · exact ⟨q1, .inl q2⟩
  · exact ⟨q1, .inr ⟨g, cap, cur, e', hg, h1 _ _ _ hh, rest⟩⟩

set_option maxRecDepth 100000 in
set_option maxHeartbeats 2000000 in
theorem looks_any (B n : Nat) (vl : Value) (w : World) (h : BookI w B n vl) (hn : n ≤ 9000000000000000000) :
    Calls Try.prog 10 #[.pointer (some ⟨B, 0, none⟩)] w fun e w' => e = .returned (.bool true) ∧ ∃ q, w' = w.drewN q := by
  obtain ⟨hB, es, hrow, hes⟩ := h
  have b0 : w.cell? ⟨B, 0, none⟩ = some vl := by rw [cell_blk hB]; rfl
  obtain ⟨al, cl, rfl, hl1, hl2, hl3⟩ := Row.of_owns hrow
  unfold maxLen at hl2
  have Hl := hide hl3
  have He := hide hes
  clear hl3 hes hrow
  go_enter Try.func10, Try.ntmps10
  go_wp2
  go_loopw [3] (fun i wr => ∃ k : Nat, k ≤ 4 ∧ i = .int .i64 k ∧ ∃ q, wr = w.drewN q) (fun i _ => 4 - (intOf i).toNat)
  case atStart => exact ⟨0, Nat.zero_le _, rfl, 0, rfl⟩
  case round =>
    obtain ⟨k, hk, rfl, q, rfl⟩ := hrel
    by_cases hk4 : k < 4
    · have hd4 : decide ((k : Int) < 4) = true := by simp; omega
      go_wp2
      go_loopw [4] (fun i wr => ∃ j : Nat, j ≤ n ∧ i = .int .i64 j ∧ ∃ q, wr = w.drewN q) (fun i _ => n - (intOf i).toNat)
      case atStart => exact ⟨0, Nat.zero_le _, rfl, q, rfl⟩
      case round =>
        clear q
        obtain ⟨j, hj, rfl, q, rfl⟩ := hrel
        by_cases hjn : j < n
        · obtain ⟨bl, ol, rfl, hbl, hcl⟩ := Hl.out (by omega)
          have cj := hcl j hjn
          obtain ⟨be, s, fr, ee, hbe, hs⟩ := He.out j hjn
          rw [ee] at cj
          have ck : w.cell? ⟨be, k, none⟩ = some (s k) := by
            rw [cell_blk hbe]
            match k, hk4 with
            | 0, _ => rfl
            | 1, _ => rfl
            | 2, _ => rfl
            | 3, _ => rfl
          obtain ⟨m, hm⟩ := hs k hk4
          obtain ⟨am, cm, em, hm1, hm2, hm3⟩ := hm.ints
          rw [em] at ck
          unfold maxLen at hm2
          have Hm := hide hm3
          clear hcl hs hm hm3 ee em
          go_wp2
          go_loopw [5] (fun i wr => ∃ t : Nat, t ≤ m ∧ i = .int .i64 t ∧ ∃ q, wr = w.drewN q) (fun i _ => m - (intOf i).toNat)
          case atStart => exact ⟨0, Nat.zero_le _, rfl, q, rfl⟩
          case round =>
            clear q
            obtain ⟨t, htm, rfl, q, rfl⟩ := hrel
            by_cases htl : t < m
            · obtain ⟨bm, om, rfl, hbm, hcm⟩ := Hm.out (by omega)
              have ct := hcm t htl
              clear hcm
              have hmk := fun w => mark_any (j : Int) w (by omega) (by omega)
              have Hmk := hide hmk
              clear hmk
              have hne : ((-700000000 - (j : Int)) != (-700000000 - (j : Int))) = false := by simp
              go_wp2
              go_quiet ((go_at_call 29; exact (Hmk.out _).mono (fun e w'' ⟨he, hw⟩ => ⟨he, _, hw⟩)))
              go_wp2
              go_roundw
              case rel => exact ⟨t + 1, by omega, by go_num, _, rfl⟩
              case measure => simp [intOf]; omega
            · go_wp2
              go_roundw
              case rel => exact ⟨j + 1, by omega, by go_num, q, rfl⟩
              case measure => simp [intOf]; omega
        · go_wp2
          go_roundw
          case rel => exact ⟨k + 1, by omega, by go_num, q, rfl⟩
          case measure => simp [intOf]; omega
    · go_wp2
      go_ret
      exact ⟨rfl, q, rfl⟩

end Go.Proofs.Ytaidjhlijadmiaa

/-
  The statements' keep: a list that came out is written full by its owner, and what append makes of it is kept.
-/
namespace Go.Proofs.Ytaidjhlijadmiaa
open Go.RowKit
attribute [local go_sem ↓] Go.wp_at_zero Go.wp_at_succ

theorem Try.info_intss2 : (Try.prog.info? 62).map (fun i => (i.zero, i.size, i.bytes)) = some (some (.slice none 0 0), 1, 24) := by kernel_rfl

/-- A slice of k marks. -/
def MarkS (m : Int) (w : World) (v : Value) (k : Nat) : Prop :=
  ∃ (g cap : Nat) (cur : Array Value), v = .slice (some ⟨g, 0, none⟩) k cap ∧ w.heap[g]? = some (.cells cur 3 (0, 0)) ∧ k ≤ cap ∧ cap ≤ maxLen ∧ cur.size = cap ∧ ∀ j, j < k → cur[j]? = some (.int .i64 m)

/-- Marks stay marks. -/
def MStay (m : Int) (w w' : World) : Prop :=
  ∀ (g : Nat) (cur : Array Value), w.heap[g]? = some (.cells cur 3 (0, 0)) → ∃ cur' : Array Value, w'.heap[g]? = some (.cells cur' 3 (0, 0)) ∧ cur'.size = cur.size ∧ ∀ j : Nat, cur[j]? = some (.int .i64 m) → cur'[j]? = some (.int .i64 m)

theorem MarkS.stay {m : Int} {w w' : World} {v : Value} {k : Nat} (h : MarkS m w v k) (hs : MStay m w w') : MarkS m w' v k := by
  obtain ⟨g, cap, cur, e, h1, h2, h3, h4, h5⟩ := h
  obtain ⟨cur', q1, q2, q3⟩ := hs g cur h1
  exact ⟨g, cap, cur', e, q1, h2, h3, by omega, fun j hj => q3 j (h5 j hj)⟩

theorem MarkS.mark {m : Int} {w : World} {v : Value} {k : Nat} (h : MarkS m w v k) : MarkT w v m := by
  obtain ⟨g, cap, cur, e, h1, h2, h3, h4, h5⟩ := h
  exact ⟨k, _, cap, e, h2, h3, fun _ => ⟨g, 0, cur, (0, 0), rfl, h1, fun j hj => by simpa using h5 j hj⟩⟩

theorem MStay.of_keep {m : Int} {w w' : World} (h : KeepT 3 w w') : MStay m w w' := fun _ cur hg => ⟨cur, h _ _ _ hg, rfl, fun _ hj => hj⟩

theorem MarkS.of_owns {m : Int} {w : World} {base n : Nat} {v : Value} (h : w.ownsRow base 3 1 v n ((List.range n).map fun _ => .int .i64 m)) (hn : 0 < n) : MarkS m w v n := by
  obtain ⟨_, ⟨_, e⟩ | ⟨g, cap, cur, e, hb, hg, h2, h3, h4, h5⟩⟩ := h
  · omega
  · refine ⟨g, cap, cur, e, hg, h2, h3, by omega, fun j hj => ?_⟩
    have := congrArg (fun l => l[j]?) h5
    simp [hj] at this
    simpa using this

theorem marks_succ (m : Int) (n k : Nat) : (List.range n).map (fun _ => Value.int .i64 m) ++ (List.range k).map (fun _ => Value.int .i64 m) = (List.range (n + k)).map (fun _ => Value.int .i64 m) := by
  rw [range_map_add]

/-- A new slice of marks. -/
theorem MarkS.new {m : Int} (w : World) (k : Nat) (cs : Array Value) (hk : cs.size = k) (hc : ∀ j, j < k → cs[j]? = some (.int .i64 m)) (hm : k ≤ maxLen) : MarkS m (w.alloc (.cells cs 3)) (.slice (some ⟨w.heap.size, 0, none⟩) k k) k :=
  ⟨w.heap.size, k, cs, rfl, alloc_new w _, Nat.le_refl _, hm, hk, hc⟩

/-- A list that is not empty lies in a block that is 'ok'. -/
def okM (ok : Nat → Prop) (v : Value) : Prop := ∀ a n c, v = .slice (some a) n c → 0 < n → ok a.block

theorem okM.mono {ok ok' : Nat → Prop} {v : Value} (h : okM ok v) (hm : ∀ b, ok b → ok' b) : okM ok' v := fun a n c e hn => hm _ (h a n c e hn)

/-- What the book is to keep of a list of n. -/
def EntS (ok : Nat → Prop) (m : Int) (n : Nat) (w : World) (v : Value) : Prop :=
  ∃ (g : Nat) (s0 s1 s2 s3 : Value), v = .slice (some ⟨g, 0, none⟩) 4 4 ∧ w.heap[g]? = some (.cells #[s0, s1, s2, s3] 36 (0, 0)) ∧ MarkT w s0 m ∧ MarkS m w s1 (n + 1) ∧ MarkS m w s2 (n + 2) ∧ MarkS m w s3 (n + 6) ∧ (s0 = .slice none 0 0 ∨ MarkS m w s0 n) ∧ okM ok s0 ∧ okM ok s1 ∧ okM ok s2 ∧ okM ok s3

theorem EntS.stay {ok : Nat → Prop} {m : Int} {n : Nat} {w w' : World} {v : Value} (h : EntS ok m n w v) (hs : MStay m w w') (hk : KeepT 36 w w') : EntS ok m n w' v := by
  obtain ⟨g, s0, s1, s2, s3, e, h0, _, h1, h2, h3, h4, hoks⟩ := h
  have h4' : s0 = .slice none 0 0 ∨ MarkS m w' s0 n := h4.imp (fun h => h) (fun h => h.stay hs)
  refine ⟨g, s0, s1, s2, s3, e, hk _ _ _ h0, ?_, h1.stay hs, h2.stay hs, h3.stay hs, h4', hoks⟩
  rcases h4' with rfl | h
  · exact ⟨0, none, 0, rfl, Nat.le_refl _, by simp [maxLen], fun h => absurd h (by omega)⟩
  · exact h.mark

theorem EntS.entry {ok : Nat → Prop} {m : Int} {n : Nat} {w : World} {v : Value} (h : EntS ok m n w v) : EntryI w v m := by
  obtain ⟨g, s0, s1, s2, s3, e, h0, q, h1, h2, h3, _⟩ := h
  refine ⟨g, fun k => if k = 0 then s0 else if k = 1 then s1 else if k = 2 then s2 else s3, (0, 0), e, h0, fun k hk => ?_⟩
  match k, hk with
  | 0, _ => exact q
  | 1, _ => exact h1.mark
  | 2, _ => exact h2.mark
  | 3, _ => exact h3.mark

/-- The list's own block, or a new one. -/
def KOk (w0 : World) (l : Value) (b : Nat) : Prop := l.ownBlock = some b ∨ w0.heap.size ≤ b

/-- What each operation of keep's last row leaves. -/
def KSpec (w0 : World) (B N n : Nat) (m : Int) (l vl : Value) (es : Nat → Value) (i : Nat) (v : Value) (w : World) : Prop :=
  match i with
  | 0 | 1 | 2 | 3 | 27 | 28 => v = .pointer (some ⟨B, 0, none⟩)
  | 4 => v = vl
  | 5 | 6 | 10 | 15 => v = l
  | 7 | 11 | 12 | 16 | 17 | 18 | 19 | 20 | 21 => v = .int .i64 m
  | 8 => MarkS m w v 1
  | 13 => MarkS m w v 2
  | 22 => MarkS m w v 6
  | 9 => MarkS m w v (n + 1) ∧ okM (KOk w0 l) v
  | 14 => MarkS m w v (n + 2) ∧ okM (KOk w0 l) v
  | 23 => MarkS m w v (n + 6) ∧ okM (KOk w0 l) v
  | 24 => EntS (KOk w0 l) m n w v
  | 25 => ∃ g e, w0.heap.size ≤ g ∧ v = .slice (some ⟨g, 0, none⟩) 1 1 ∧ w.heap[g]? = some (.cells #[e] 62 (0, 0)) ∧ EntS (KOk w0 l) m n w e
  | 26 => ∃ g cap e, v = .slice (some ⟨g, 0, none⟩) (N + 1) cap ∧ w.ownsRow 0 62 1 v (N + 1) ((List.range N).map es ++ [e]) ∧ EntS (KOk w0 l) m n w e ∧ (vl.ownBlock = some g ∨ w0.heap.size ≤ g)
  | _ => True

structure KInv (w0 : World) (B N n : Nat) (m : Int) (l vl : Value) (es : Nat → Value) (w : World) : Prop where
  only : Only (fun k => k = B ∨ vl.ownBlock = some k ∨ l.ownBlock = some k) w0 w
  book : w.heap[B]? = some (.cells #[vl] 35 (0, 0))
  lrow : w.ownsRow 0 3 1 l n ((List.range n).map fun _ => .int .i64 m)
  vlrow : w.ownsRow 0 62 1 vl N ((List.range N).map es)

def KEnd (w0 : World) (B N n : Nat) (m : Int) (l vl : Value) (es : Nat → Value) (w : World) : Prop :=
  Only (fun k => k = B ∨ vl.ownBlock = some k ∨ l.ownBlock = some k) w0 w ∧ ∃ g cap e, w.heap[B]? = some (.cells #[.slice (some ⟨g, 0, none⟩) (N + 1) cap] 35 (0, 0)) ∧ w.ownsRow 0 62 1 (.slice (some ⟨g, 0, none⟩) (N + 1) cap) (N + 1) ((List.range N).map es ++ [e]) ∧ EntS (KOk w0 l) m n w e ∧ (vl.ownBlock = some g ∨ w0.heap.size ≤ g)

/-- Everything that is told stays, behind a step that keeps marks, lists of lists, and lists of those. -/
theorem KSpec.stay {w0 : World} {B N n : Nat} {m : Int} {l vl : Value} {es : Nat → Value} {w w' : World} (hs : MStay m w w') (hk : KeepT 36 w w') (hT : KeepT 62 w w') (j : Nat) (u : Value) (h : KSpec w0 B N n m l vl es j u w) : KSpec w0 B N n m l vl es j u w' := by
  unfold KSpec at h ⊢
  split <;> simp only [] at h ⊢ <;> first | exact h | exact MarkS.stay h hs | exact ⟨MarkS.stay h.1 hs, h.2⟩ | exact EntS.stay h hs hk | skip
  · obtain ⟨g, e, h1, h2, h3, h4⟩ := h
    exact ⟨g, e, h1, h2, hT _ _ _ h3, h4.stay hs hk⟩
  · obtain ⟨g, cap, e, h1, h2, h3, h4⟩ := h
    refine ⟨g, cap, e, h1, ?_, h3.stay hs hk, h4⟩
    obtain ⟨q1, q2 | ⟨g', cap', cur', e', hg', hh', rest⟩⟩ := h2
    · exact ⟨q1, .inl q2⟩
    · exact ⟨q1, .inr ⟨g', cap', cur', e', hg', hT _ _ _ hh', rest⟩⟩

section
variable {w0 w w' : World} {B N n : Nat} {m : Int} {l vl : Value} {es : Nat → Value}

theorem KInv.alloc (h : KInv w0 B N n m l vl es w) (o : Obj) : KInv w0 B N n m l vl es (w.alloc o) :=
  ⟨h.only.alloc o, by rw [alloc_old _ _ _ (lt_blk h.book)]; exact h.book, h.lrow.alloc o, h.vlrow.alloc o⟩

theorem KSpec.alloc (o : Obj) (j : Nat) (u : Value) (h : KSpec w0 B N n m l vl es j u w) : KSpec w0 B N n m l vl es j u (w.alloc o) :=
  KSpec.stay (MStay.of_keep (KeepT.alloc _ _)) (KeepT.alloc _ _) (KeepT.alloc _ _) j u h

theorem MarkS.news {x : Value} {k : Nat} (h : MarkS m w x k) : ∃ g cap, x = .slice (some ⟨g, 0, none⟩) k cap ∧ ∀ (j : Nat) (u : Value), ((List.range k).map fun _ => Value.int .i64 m)[j]? = some u → w.cell? ((⟨g, 0, none⟩ : Addr).add j) = some u := by
  obtain ⟨g, cap, cur, e, h1, h2, h3, h4, h5⟩ := h
  refine ⟨g, cap, e, fun j u hj => ?_⟩
  have hlt : j < k := by
    have := (List.getElem?_eq_some_iff.1 hj).1
    simpa using this
  have e1 : (⟨g, 0, none⟩ : Addr).add j = ⟨g, j, none⟩ := by unfold Addr.add; split <;> simp_all
  rw [e1, cell_blk h1, h5 j hlt]
  simpa [hlt] using hj

theorem KInv.mark (h : KInv w0 B N n m l vl es w) : l = .slice none 0 0 ∨ MarkS m w l n := by
  obtain ⟨_, ⟨e, _⟩ | ⟨g, cap, cur, e, hb, hg, h2, h3, h4, h5⟩⟩ := h.lrow
  · exact .inl e
  · refine .inr ⟨g, cap, cur, e, hg, h2, h3, by omega, fun j hj => ?_⟩
    have := congrArg (fun l => l[j]?) h5
    simp [hj] at this
    simpa using this

theorem markT_of (h : l = .slice none 0 0 ∨ MarkS m w l n) : MarkT w l m := by
  rcases h with rfl | h
  · exact ⟨0, none, 0, rfl, Nat.le_refl _, by simp [maxLen], fun h => absurd h (by omega)⟩
  · exact h.mark

/-- The same, behind a step that writes into the book's own row. -/
theorem KSpec.stay26 (hs : MStay m w w') (hk : KeepT 36 w w') (hT : ∀ (g : Nat) (cur : Array Value) (fr : Nat × Nat), w0.heap.size ≤ g → w.heap[g]? = some (.cells cur 62 fr) → w'.heap[g]? = some (.cells cur 62 fr)) (j : Nat) (u : Value) (hj : j ≠ 26) (h : KSpec w0 B N n m l vl es j u w) : KSpec w0 B N n m l vl es j u w' := by
  unfold KSpec at h ⊢
  split <;> simp only [] at h ⊢ <;> first | exact h | exact MarkS.stay h hs | exact ⟨MarkS.stay h.1 hs, h.2⟩ | exact EntS.stay h hs hk | skip
  · obtain ⟨g, e, h1, h2, h3, h4⟩ := h
    exact ⟨g, e, h1, h2, hT _ _ _ h1 h3, h4.stay hs hk⟩
  · exact absurd rfl hj

/-- append of an entry onto the book. -/
theorem keep_entry {P : Program} (i1 : TypeInfo) (hi : P.info? 62 = some i1) (hz0 : i1.zero = some (.slice none 0 0)) (hz1 : i1.size = 1) (hz2 : i1.bytes = 24) (ht : P.underlying 33 = some (.slice 62)) (ty : TypeId)
    (h : KInv w0 B N n m l vl es w) (hvl : ∀ k, vl.ownBlock = some k → k < w0.heap.size) {g : Nat} {e : Value} (hg : w.heap[g]? = some (.cells #[e] 62 (0, 0))) (he : EntS (KOk w0 l) m n w e) (hN : N ≤ 5000000000000) :
    ∃ g' cap' w', (Builtin.append_ #[33, 33] ty #[vl, .slice (some ⟨g, 0, none⟩) 1 1]).run P w = .ok (.slice (some ⟨g', 0, none⟩) (N + 1) cap') w' ∧ KInv w0 B N n m l vl es w' ∧
      KSpec w0 B N n m l vl es 26 (.slice (some ⟨g', 0, none⟩) (N + 1) cap') w' ∧ ∀ j u, j ≠ 26 → KSpec w0 B N n m l vl es j u w → KSpec w0 B N n m l vl es j u w' := by
  have hone : ∀ u ∈ [e], u.oneCell' = true := by
    obtain ⟨_, _, _, _, _, rfl, _⟩ := he
    intro u hu; simp at hu; subst hu; rfl
  have hnews : ∀ (j : Nat) (u : Value), [e][j]? = some u → w.cell? ((⟨g, 0, none⟩ : Addr).add j) = some u := by
    intro j u hj
    match j, hj with
    | 0, hj => simp at hj; subst hj; simp [Addr.add, cell_blk hg]
  obtain ⟨g', cap', w', hr, h1, h2, h3, h4, h5⟩ := append_stays w 33 ty 0 62 i1 _ 24 ht hi hz0 hz1 hz2 rfl vl N _ h.vlrow ⟨g, 0, none⟩ 1 1 [e] rfl hnews hone (by omega) (by unfold maxLen; omega) (by omega) (by omega)
  have hkeep : ∀ e : TypeId, e ≠ 62 → KeepT e w w' := fun e he => KeepT.of_grown h.vlrow h2 he
  have hsz := h.only.size
  have hms : MStay m w w' := MStay.of_keep (hkeep _ (by decide))
  have hT : ∀ (g : Nat) (cur : Array Value) (fr : Nat × Nat), w0.heap.size ≤ g → w.heap[g]? = some (.cells cur 62 fr) → w'.heap[g]? = some (.cells cur 62 fr) := fun b cur fr hb hh => by
    rw [h2.block b (lt_blk hh) (fun e => by have := hvl b e.symm; omega)]; exact hh
  refine ⟨g', cap', w', hr, ⟨h.only.grown h2 (fun k hk _ => .inr (.inl hk)), hkeep _ (by decide) _ _ _ h.book, ?_, h4⟩, ⟨g', cap', e, rfl, h1, he.stay hms (hkeep _ (by decide)), h3.imp (fun h => h) (fun h => by omega)⟩, fun j u hj hh => KSpec.stay26 hms (hkeep _ (by decide)) hT j u hj hh⟩
  obtain ⟨q1, q2 | ⟨b, cap, cur, e', hb, hh, rest⟩⟩ := h.lrow
  · exact ⟨q1, .inl q2⟩
  · exact ⟨q1, .inr ⟨b, cap, cur, e', hb, hkeep _ (by decide) _ _ _ hh, rest⟩⟩

/-- append of marks onto the list. -/
theorem keep_append {P : Program} (i0 : TypeInfo) (hi : P.info? 3 = some i0) (hz0 : i0.zero = some (.int .i64 0)) (hz1 : i0.size = 1) (hz2 : i0.bytes = 8) (ht : P.underlying 36 = some (.slice 3)) (ty : TypeId)
    (h : KInv w0 B N n m l vl es w) {x : Value} {k : Nat} (hx : MarkS m w x k) (hk : 1 ≤ k) (hk6 : k ≤ 6) (hn : n ≤ 1000000) :
    ∃ v w', (Builtin.append_ #[36, 36] ty #[l, x]).run P w = .ok v w' ∧ KInv w0 B N n m l vl es w' ∧ (MarkS m w' v (n + k) ∧ okM (KOk w0 l) v) ∧ MStay m w w' ∧ KeepT 36 w w' ∧ KeepT 62 w w' := by
  obtain ⟨g, cap, rfl, hnews⟩ := hx.news
  obtain ⟨g', cap', w', hr, h1, h2, h3, h4, h5⟩ := append_stays w 36 ty 0 3 i0 _ 8 ht hi hz0 hz1 hz2 rfl l n _ h.lrow ⟨g, 0, none⟩ k cap _ (by simp) hnews (ints_one _ _) (by omega) (by unfold maxLen; omega) (by omega) (Nat.zero_le _)
  rw [marks_succ] at h1
  have hkeep : ∀ e : TypeId, e ≠ 3 → KeepT e w w' := fun e he => KeepT.of_grown h.lrow h2 he
  have hsz := h.only.size
  have hms : MStay m w w' := by
    intro b cur hb
    by_cases hbl : l.ownBlock = some b
    · obtain ⟨cur', q1, q2, q3⟩ := h5 b cur hbl hb
      refine ⟨cur', q1, q2, fun j hj => ?_⟩
      rcases q3 j with q | ⟨u, hu, q⟩
      · rw [q]; exact hj
      · rw [q]
        simp at hu
        rw [hu.2]
    · exact ⟨cur, by rw [h2.block b (lt_blk hb) (fun e => hbl e.symm)]; exact hb, rfl, fun _ hj => hj⟩
  refine ⟨_, w', hr, ⟨h.only.grown h2 (fun k hk hlt => .inr (.inr hk)), hkeep _ (by decide) _ _ _ h.book, h4, ?_⟩, ⟨MarkS.of_owns h1 (by omega), fun a n c e _ => ?_⟩, hms, hkeep _ (by decide), hkeep _ (by decide)⟩
  · obtain ⟨q1, q2 | ⟨b, cap, cur, e, hb, hh, rest⟩⟩ := h.vlrow
    · exact ⟨q1, .inl q2⟩
    · exact ⟨q1, .inr ⟨b, cap, cur, e, hb, hkeep _ (by decide) _ _ _ hh, rest⟩⟩
  · cases e
    exact h3.imp (fun h => h) (fun h => Nat.le_trans hsz h)
end

theorem owns_cell' {w : World} {base : Nat} {e : TypeId} {size : Nat} {v : Value} {n : Nat} {xs : List Value} (h : w.ownsRow base e size v n xs) {g : Nat} (hg : v.ownBlock = some g) {j : Nat} {u : Value} (hj : xs[j]? = some u) : w.cell? ⟨g, j, none⟩ = some u := by
  obtain ⟨_, ⟨e1, _⟩ | ⟨g', cap, cur, e1, _, hh, _, _, _, ht⟩⟩ := h
  · rw [e1] at hg; cases hg
  · rw [e1] at hg
    injection hg with hg
    subst hg
    rw [cell_blk hh]
    rw [← ht] at hj
    have : j < n * size := by
      have := (List.getElem?_eq_some_iff.1 hj).1
      simp at this
      omega
    rw [List.getElem?_take_of_lt this] at hj
    simpa using hj

/-- The lists that an entry keeps, and those of a whole book, lie in blocks that are 'ok'. -/
def EntOk (ok : Nat → Prop) (w : World) (e : Value) : Prop := ∀ b cur fr, e = .slice (some ⟨b, 0, none⟩) 4 4 → w.heap[b]? = some (.cells cur 36 fr) → ∀ (k : Nat) u, k < 4 → cur[k]? = some u → okM ok u
def BookOk (ok : Nat → Prop) (w : World) (N : Nat) (vl : Value) : Prop := ∀ g i e, vl.ownBlock = some g → i < N → w.cell? ⟨g, i, none⟩ = some e → EntOk ok w e

theorem EntOk.keep {ok : Nat → Prop} {w w' : World} {e : Value} {m : Int} (h : EntOk ok w e) (hE : EntryI w e m) (hk : KeepT 36 w w') : EntOk ok w' e := fun b cur fr he hh k u hk4 hu => by
  obtain ⟨b', s, fr', e', hb', _⟩ := hE
  rw [he] at e'
  injection e' with e' _ _
  injection e' with e'
  injection e' with e' _ _
  subst e'
  have q := hk _ _ _ hb'
  rw [q] at hh
  injection hh with hh
  injection hh with hh _ _
  subst hh
  exact h b _ fr' he hb' k u hk4 hu

theorem MarkT.stays {ok : Nat → Prop} {w w' : World} {v : Value} {m : Int} (h : MarkT w v m) (ho : okM ok v) (hk : ∀ b cur fr, ok b → w.heap[b]? = some (.cells cur 3 fr) → w'.heap[b]? = some (.cells cur 3 fr)) : MarkT w' v m := by
  obtain ⟨n, a, c, rfl, h1, h2, h3⟩ := h
  refine ⟨n, a, c, rfl, h1, h2, fun hn => ?_⟩
  obtain ⟨b, off, cur, fr, rfl, hb, hc⟩ := h3 hn
  exact ⟨b, off, cur, fr, rfl, hk b cur fr (ho _ _ _ rfl hn) hb, hc⟩

theorem EntryI.stays {ok : Nat → Prop} {w w' : World} {e : Value} {m : Int} (h : EntryI w e m) (ho : EntOk ok w e) (h1 : KeepT 36 w w') (hk : ∀ b cur fr, ok b → w.heap[b]? = some (.cells cur 3 fr) → w'.heap[b]? = some (.cells cur 3 fr)) : EntryI w' e m := by
  obtain ⟨b, s, fr, he, hb, hs⟩ := h
  refine ⟨b, s, fr, he, h1 _ _ _ hb, fun k hk4 => (hs k hk4).stays (ho b _ fr he hb k (s k) hk4 ?_) hk⟩
  match k, hk4 with
  | 0, _ => rfl
  | 1, _ => rfl
  | 2, _ => rfl
  | 3, _ => rfl

theorem EntryI.okOld {w : World} {e : Value} {m : Int} (h : EntryI w e m) : EntOk (fun b => b < w.heap.size) w e := fun b cur fr he hh k u hk4 hu => by
  obtain ⟨b', s, fr', e', hb', hs⟩ := h
  rw [he] at e'
  injection e' with e' _ _
  injection e' with e'
  injection e' with e' _ _
  subst e'
  rw [hb'] at hh
  injection hh with hh
  injection hh with hh _ _
  subst hh
  have hu' : u = s k := by
    match k, hk4, hu with
    | 0, _, hu => simp at hu; exact hu.symm
    | 1, _, hu => simp at hu; exact hu.symm
    | 2, _, hu => simp at hu; exact hu.symm
    | 3, _, hu => simp at hu; exact hu.symm
  subst hu'
  intro a n c ea hn
  obtain ⟨n', a', c', e2, _, _, h3⟩ := hs k hk4
  rw [ea] at e2
  injection e2 with e2 e3 e4
  subst e2 e3 e4
  obtain ⟨b2, off, cur, fr2, e5, hb2, _⟩ := h3 hn
  cases e5
  exact lt_blk hb2

theorem EntS.okIs {ok : Nat → Prop} {m : Int} {n : Nat} {w : World} {e : Value} (h : EntS ok m n w e) : EntOk ok w e := fun b cur fr he hh k u hk4 hu => by
  obtain ⟨g, s0, s1, s2, s3, e', h0, _, _, _, _, _, o0, o1, o2, o3⟩ := h
  rw [he] at e'
  injection e' with e' _ _
  injection e' with e'
  injection e' with e' _ _
  subst e'
  rw [h0] at hh
  injection hh with hh
  injection hh with hh _ _
  subst hh
  match k, hk4, hu with
  | 0, _, hu => simp at hu; subst hu; exact o0
  | 1, _, hu => simp at hu; subst hu; exact o1
  | 2, _, hu => simp at hu; subst hu; exact o2
  | 3, _, hu => simp at hu; subst hu; exact o3

set_option maxRecDepth 100000 in
set_option maxHeartbeats 4000000 in
theorem keep_any (B N n : Nat) (l vl : Value) (g : Nat → Int) (w0 : World) (h : BookI w0 B N vl) (hok : BookOk (fun b => l.ownBlock ≠ some b) w0 N vl) (hl : w0.ownsRow 0 3 1 l n ((List.range n).map fun j => .int .i64 (g j))) (hN : N ≤ 5000000000000) (hn : n ≤ 1000000) :
    Calls Try.prog 49 #[.pointer (some ⟨B, 0, none⟩), l] w0 fun e w' =>
      e = .returned (.tuple #[]) ∧ Only (fun k => k = B ∨ vl.ownBlock = some k ∨ l.ownBlock = some k) w0 w' ∧ ∃ vl', BookI w' B (N + 1) vl' ∧ (∀ k, vl'.ownBlock = some k → vl.ownBlock = some k ∨ w0.heap.size ≤ k) ∧
        ∀ ok, BookOk ok w0 N vl → (∀ b, KOk w0 l b → ok b) → BookOk ok w' (N + 1) vl' := by
  obtain ⟨i0, hi, hz0, hz1, hz2⟩ := info_parts Try.info_int
  obtain ⟨i1, hi1, hy0, hy1, hy2⟩ := info_parts Try.info_intss2
  obtain ⟨hbk, es, hrow, hes⟩ := h
  have hBl := lt_blk hbk
  have b0 : w0.cell? ⟨B, 0, none⟩ = some vl := by rw [cell_blk hbk]; rfl
  have hlty : ∀ k, l.ownBlock = some k → ∃ cur fr, w0.heap[k]? = some (.cells cur 3 fr) := fun k hk => by
    obtain ⟨_, ⟨e1, _⟩ | ⟨g', cap, cur, e1, _, hh, _⟩⟩ := hl
    · rw [e1] at hk; cases hk
    · rw [e1] at hk; injection hk with hk; subst hk; exact ⟨_, _, hh⟩
  have hvty : ∀ k, vl.ownBlock = some k → ∃ cur fr, w0.heap[k]? = some (.cells cur 62 fr) := fun k hk => by
    obtain ⟨_, ⟨e1, _⟩ | ⟨g', cap, cur, e1, _, hh, _⟩⟩ := hrow
    · rw [e1] at hk; cases hk
    · rw [e1] at hk; injection hk with hk; subst hk; exact ⟨_, _, hh⟩
  obtain ⟨av, cv, ev⟩ : ∃ a c, vl = .slice a N c := by
    obtain ⟨_, ⟨rfl, e⟩ | ⟨g, cap, cur, rfl, _⟩⟩ := hrow
    · exact ⟨none, 0, by rw [e]⟩
    · exact ⟨_, cap, rfl⟩
  have Hlty := hide hlty
  have Hvty := hide hvty
  have Hok := hide hok
  clear hlty hvty hok
  obtain ⟨al, cl, el⟩ : ∃ a c, l = .slice a n c := by
    obtain ⟨_, ⟨rfl, e⟩ | ⟨g, cap, cur, rfl, _⟩⟩ := hl
    · exact ⟨none, 0, by rw [e]⟩
    · exact ⟨_, cap, rfl⟩
  subst el
  obtain ⟨m, em⟩ : ∃ m : Int, m = -700000000 - (N : Int) := ⟨_, rfl⟩
  have hmk := fun w => mark_any (N : Int) w (by omega) (by omega)
  rw [← em] at hmk
  have Hmk := hide hmk
  have Hm := hide em
  have Hev := hide ev
  rw [ev] at b0
  have Hrow := hide hrow
  have Hes := hide hes
  clear hmk em hrow hes ev
  go_enter Try.func49, Try.ntmps49
  go_wp2_with fail
  refine Calls_use (Hmk.out _) ?_
  clear Hmk
  go_wp2
  go_loopw [5] (fun i wr => ∃ k : Nat, k ≤ n ∧ i = .int .i64 k ∧ wr.ownsRow 0 3 1 (.slice al n cl) n ((List.range n).map fun j => .int .i64 (if j < k then m else g j)) ∧ Only (fun b => (Value.slice al n cl).ownBlock = some b) w0 wr) (fun i _ => n - (intOf i).toNat)
  case atStart => exact ⟨0, Nat.zero_le _, rfl, by simpa using hl, Only.refl _ _⟩
  case round =>
    obtain ⟨k, hk, rfl, hrow, hbel⟩ := hrel
    by_cases hlt : k < n
    · rcases OwnI.of_owns hrow with ⟨_, h0⟩ | ⟨b, cap, e, ho⟩
      · omega
      · injection e with e1 _ e3
        subst e1 e3
        have c0 := ho.cell k hlt
        have f0 := ho.frozen k
        have hset := (ho.set k m).owns
        have e9 : (List.range n).map (fun j => Value.int .i64 (if j = k then m else if j < k then m else g j)) = (List.range n).map (fun j => Value.int .i64 (if j < k + 1 then m else g j)) := by
          apply List.map_congr_left
          intro j _
          by_cases h1 : j = k
          · rw [if_pos h1, if_pos (by omega)]
          · rw [if_neg h1]
            by_cases h2 : j < k
            · rw [if_pos h2, if_pos (by omega)]
            · rw [if_neg h2, if_neg (by omega)]
        rw [e9] at hset
        have Hset := hide hset
        clear hset e9 ho hrow
        go_wp2
        go_roundw
        case rel => exact ⟨k + 1, by omega, by go_num, Hset.out, hbel.setCell (p := ⟨b, k, none⟩) (fun _ => rfl) _⟩
        case measure => simp [intOf]; omega
    · have e9 : (List.range n).map (fun j => Value.int .i64 (if j < k then m else g j)) = (List.range n).map (fun _ => Value.int .i64 m) := by
        apply List.map_congr_left
        intro j hj
        rw [if_pos (by have := List.mem_range.1 hj; omega)]
      rw [e9] at hrow
      have hbkr := (hbel.block B hBl (fun hh => by
        obtain ⟨cur, fr, q⟩ := Hlty.out B hh
        rw [hbk] at q; injection q with q; injection q with _ q _; exact absurd q (by decide))).trans hbk
      have hvr : wr.ownsRow 0 62 1 vl N ((List.range N).map es) := by
        obtain ⟨q1, q2 | ⟨g', cap, cur, e', hg, hh, rest⟩⟩ := Hrow.out
        · exact ⟨q1, .inl q2⟩
        · refine ⟨q1, .inr ⟨g', cap, cur, e', hg, (hbel.block g' (lt_blk hh) (fun hx => ?_)).trans hh, rest⟩⟩
          obtain ⟨cur', fr', q⟩ := Hlty.out g' hx
          rw [hh] at q; injection q with q; injection q with _ q _; exact absurd q (by decide)
      have hI0 : KInv w0 B N n m (.slice al n cl) vl es wr := ⟨hbel.mono (fun k _ hk => .inr (.inr hk)), hbkr, hrow, hvr⟩
      obtain ⟨W1, rfl⟩ : ∃ W1, W1 = wr := ⟨_, rfl⟩
      clear hrow e9 hbkr b0
      go_wp2_with fail
      refine wp_region_specs (z := 29) (Spec := KSpec w0 B N n m (.slice al n cl) vl es) (I := fun b w => match b with | true => KEnd w0 B N n m (.slice al n cl) vl es w | false => KInv w0 B N n m (.slice al n cl) vl es w) (by kernel_rfl) (by kernel_rfl) (by decide +kernel) ?step ?fin ?init
      case init => exact ⟨hI0.only.drewN 1, hI0.book, hI0.lrow, hI0.vlrow⟩
      case fin =>
        intro a w hF hE hS
        obtain ⟨hO, g9, c9, e9, hb9, hown9, hent9, hat9⟩ : KEnd w0 B N n m (.slice al n cl) vl es w := hE
        have kp : ∀ e : TypeId, e ≠ 35 → e ≠ 62 → e ≠ 3 → KeepT e w0 w := fun e h1 h2 h3 => hO.keep (fun k cur fr hk hh => by
          rcases hk with rfl | hk | hk
          · rw [hbk] at hh; injection hh with hh; injection hh with _ q _; exact h1 q.symm
          · obtain ⟨cur', fr', q⟩ := Hvty.out k hk
            rw [q] at hh; injection hh with hh; injection hh with _ q _; exact h2 q.symm
          · obtain ⟨cur', fr', q⟩ := Hlty.out k hk
            rw [q] at hh; injection hh with hh; injection hh with _ q _; exact h3 q.symm)
        have ki : ∀ b cur fr, (Value.slice al n cl).ownBlock ≠ some b → w0.heap[b]? = some (.cells cur 3 fr) → w.heap[b]? = some (.cells cur 3 fr) := fun b cur fr hb q => by
          rw [hO.block b (lt_blk q) (fun hh => by
            rcases hh with rfl | hh | hh
            · rw [hbk] at q; injection q with q; injection q with _ q _; exact absurd q (by decide)
            · obtain ⟨cur', fr', q'⟩ := Hvty.out b hh
              rw [q'] at q; injection q with q; injection q with _ q _; exact absurd q (by decide)
            · exact hb hh)]
          exact q
        have hcell : ∀ i, i < N → ∃ gv, vl.ownBlock = some gv ∧ w0.cell? ⟨gv, i, none⟩ = some (es i) := fun i hi => by
          obtain ⟨gv, hgv⟩ : ∃ gv, vl.ownBlock = some gv := by
            obtain ⟨_, ⟨_, e⟩ | ⟨gv, _, _, e, _⟩⟩ := Hrow.out
            · omega
            · exact ⟨gv, by rw [e]; rfl⟩
          exact ⟨gv, hgv, owns_cell' Hrow.out hgv (by simp [hi])⟩
        go_wp2_with fail
        refine bodyPost_end (v := .tuple #[]) (by simp [results, Try.results49]) hF.defers ⟨rfl, hO, _, ⟨hb9, fun i => if i = N then e9 else es i, ?_, fun i hi => ?_⟩, fun k hk => ?_, fun ok hok1 hok2 => ?_⟩
        · rw [range_map_succ, if_pos rfl]
          have e8 : (List.range N).map (fun i => if i = N then e9 else es i) = (List.range N).map es := by
            apply List.map_congr_left
            intro i hi
            rw [if_neg (by have := List.mem_range.1 hi; omega)]
          rw [e8]; exact hown9
        · by_cases e : i = N
          · subst e
            simp only [if_true]
            rw [← Hm.out]; exact hent9.entry
          · simp only [if_neg e]
            obtain ⟨gv, hgv, hcv⟩ := hcell i (by omega)
            exact (Hes.out i (by omega)).stays (Hok.out gv i _ hgv (by omega) hcv) (kp _ (by decide) (by decide) (by decide)) ki
        · simp only [Value.ownBlock] at hk
          injection hk with hk
          subst hk
          exact hat9
        · intro gv i e' hg hi hc
          by_cases e : i = N
          · subst e
            have q := owns_cell' hown9 hg (j := i) (u := e9) (by rw [List.getElem?_append_right (by simp)]; simp)
            rw [q] at hc
            injection hc with hc
            subst hc
            intro b cur fr he hh k u hk4 hu
            exact (hent9.okIs b cur fr he hh k u hk4 hu).mono hok2
          · have q := owns_cell' hown9 hg (j := i) (u := es i) (by rw [List.getElem?_append_left (by simp; omega)]; simp [show i < N by omega])
            rw [q] at hc
            injection hc with hc
            subst hc
            obtain ⟨gv', hgv, hcv⟩ := hcell i (by omega)
            exact (hok1 gv' i _ hgv (by omega) hcv).keep (Hes.out i (by omega)) (kp _ (by decide) (by decide) (by decide))
      case step =>
        intro i o ho a w hF hI hdep K hK
        have hI' : KInv w0 B N n m (.slice al n cl) vl es w := hI
        have hi30 : i < 30 := by have := (Array.getElem?_eq_some_iff.1 ho).1; simpa using this
        have e0 : a.eval (.tmp 0) = .pointer (some ⟨B, 0, none⟩) := (frame_eval hF (by kernel_rfl)).trans rfl
        have e1 : a.eval (.tmp 1) = .slice al n cl := (frame_eval hF (by kernel_rfl)).trans rfl
        have e4 : a.eval (.tmp 4) = .int .i64 m := (frame_eval hF (by kernel_rfl)).trans rfl
        match i, hi30 with
        | 0, _ => exact spec_run (d := some 22) (op := .move (.tmp 0)) (ty := 32) (v := .pointer (some ⟨B, 0, none⟩)) (w' := w) ho (by kernel_rfl) (fun pos after => by simp [execOp, e0]) (hK _ _ hI (dst_ne ho (d := 22) (by kernel_rfl)) rfl (fun _ _ _ h => h))
        | 1, _ => exact spec_run (d := some 23) (op := .move (.tmp 0)) (ty := 32) (v := .pointer (some ⟨B, 0, none⟩)) (w' := w) ho (by kernel_rfl) (fun pos after => by simp [execOp, e0]) (hK _ _ hI (dst_ne ho (d := 23) (by kernel_rfl)) rfl (fun _ _ _ h => h))
        | 2, _ =>
          have q : a.eval (.tmp 23) = .pointer (some ⟨B, 0, none⟩) := dep_at ho hdep (j := 1) (dj := 23) (by kernel_rfl) (by kernel_rfl)
          have q' : a.tmps[23]?.getD undef = .pointer (some ⟨B, 0, none⟩) := by have h := q; simpa [Act.eval] using h
          exact spec_run (d := some 24) (op := .nilCheck (.tmp 23)) (ty := 0) (v := .pointer (some ⟨B, 0, none⟩)) (w' := w) ho (by kernel_rfl) (fun pos after => by simp [execOp, q', go_sem]) (hK _ _ hI (dst_ne ho (d := 24) (by kernel_rfl)) rfl (fun _ _ _ h => h))
        | 3, _ =>
          have q : a.eval (.tmp 24) = .pointer (some ⟨B, 0, none⟩) := dep_at ho hdep (j := 2) (dj := 24) (by kernel_rfl) (by kernel_rfl)
          have q' : a.tmps[24]?.getD undef = .pointer (some ⟨B, 0, none⟩) := by have h := q; simpa [Act.eval] using h
          exact spec_run (d := some 25) (op := .fieldAddr 35 (.tmp 24) 0) (ty := 0) (v := .pointer (some ⟨B, 0, none⟩)) (w' := w) ho (by kernel_rfl) (fun pos after => by simp [execOp, q', go_sem]) (hK _ _ hI (dst_ne ho (d := 25) (by kernel_rfl)) rfl (fun _ _ _ h => h))
        | 4, _ =>
          have q : a.eval (.tmp 25) = .pointer (some ⟨B, 0, none⟩) := dep_at ho hdep (j := 3) (dj := 25) (by kernel_rfl) (by kernel_rfl)
          have q' : a.tmps[25]?.getD undef = .pointer (some ⟨B, 0, none⟩) := by have h := q; simpa [Act.eval] using h
          have c0 : w.cell? ⟨B, 0, none⟩ = some (.slice av N cv) := by rw [cell_blk hI'.book, ← Hev.out]; rfl
          exact spec_run (d := some 26) (op := .load 33 (.tmp 25)) (ty := 33) (v := .slice av N cv) (w' := w) ho (by kernel_rfl) (fun pos after => by simp [execOp, q', c0, go_sem]) (hK _ _ hI (dst_ne ho (d := 26) (by kernel_rfl)) Hev.out.symm (fun _ _ _ h => h))
        | 5, _ => exact spec_run (d := some 27) (op := .move (.tmp 1)) (ty := 36) (v := .slice al n cl) (w' := w) ho (by kernel_rfl) (fun pos after => by simp [execOp, e1]) (hK _ _ hI (dst_ne ho (d := 27) (by kernel_rfl)) rfl (fun _ _ _ h => h))
        | 6, _ => exact spec_run (d := some 28) (op := .move (.tmp 1)) (ty := 36) (v := .slice al n cl) (w' := w) ho (by kernel_rfl) (fun pos after => by simp [execOp, e1]) (hK _ _ hI (dst_ne ho (d := 28) (by kernel_rfl)) rfl (fun _ _ _ h => h))
        | 7, _ => exact spec_run (d := some 29) (op := .move (.tmp 4)) (ty := 3) (v := .int .i64 m) (w' := w) ho (by kernel_rfl) (fun pos after => by simp [execOp, e4]) (hK _ _ hI (dst_ne ho (d := 29) (by kernel_rfl)) rfl (fun _ _ _ h => h))
        | 8, _ =>
          have q29 : a.eval (.tmp 29) = .int .i64 m := dep_at ho hdep (j := 7) (dj := 29) (by kernel_rfl) (by kernel_rfl)
          have q29' : a.tmps[29]?.getD undef = .int .i64 m := by have h := q29; simpa [Act.eval] using h
          refine spec_run (d := some 30) (op := .buildSlice 36 1 #[(0, .tmp 29)]) (ty := 36) (v := .slice (some ⟨w.heap.size, 0, none⟩) 1 1) (w' := w.alloc (.cells #[.int .i64 m] 3)) ho (by kernel_rfl) (fun pos after => by simp [execOp, q29', go_sem]) (hK _ _ (hI'.alloc _) (dst_ne ho (d := 30) (by kernel_rfl)) ?_ (fun j u _ h => KSpec.alloc _ j u h))
          exact MarkS.new w 1 _ rfl (fun j hj => by match j, hj with | 0, _ => rfl) (by unfold maxLen; omega)
        | 9, _ =>
          have ql : a.eval (.tmp 28) = .slice al n cl := dep_at ho hdep (j := 6) (dj := 28) (by kernel_rfl) (by kernel_rfl)
          have qx : MarkS m w (a.eval (.tmp 30)) 1 := dep_at ho hdep (j := 8) (dj := 30) (by kernel_rfl) (by kernel_rfl)
          obtain ⟨v, w', hr, h1, h2, h3, h4, h5⟩ := keep_append i0 hi hz0 hz1 hz2 Try.underlying36 36 hI' qx (by omega) (by omega) hn
          exact spec_run (d := some 31) (op := .call { callee := .builtin .append, args := #[.tmp 28, .tmp 30], argTypes := #[36, 36] }) (ty := 36) (v := v) (w' := w') ho (by kernel_rfl) (fun pos after => by simp [execOp, resolve, invoke, builtin, ql, hr, Result.andThen]) (hK _ _ h1 (dst_ne ho (d := 31) (by kernel_rfl)) h2 (fun j u _ h => KSpec.stay h3 h4 h5 j u h))
        | 10, _ => exact spec_run (d := some 32) (op := .move (.tmp 1)) (ty := 36) (v := .slice al n cl) (w' := w) ho (by kernel_rfl) (fun pos after => by simp [execOp, e1]) (hK _ _ hI (dst_ne ho (d := 32) (by kernel_rfl)) rfl (fun _ _ _ h => h))
        | 11, _ => exact spec_run (d := some 33) (op := .move (.tmp 4)) (ty := 3) (v := .int .i64 m) (w' := w) ho (by kernel_rfl) (fun pos after => by simp [execOp, e4]) (hK _ _ hI (dst_ne ho (d := 33) (by kernel_rfl)) rfl (fun _ _ _ h => h))
        | 12, _ => exact spec_run (d := some 34) (op := .move (.tmp 4)) (ty := 3) (v := .int .i64 m) (w' := w) ho (by kernel_rfl) (fun pos after => by simp [execOp, e4]) (hK _ _ hI (dst_ne ho (d := 34) (by kernel_rfl)) rfl (fun _ _ _ h => h))
        | 13, _ =>
          have q33 : a.eval (.tmp 33) = .int .i64 m := dep_at ho hdep (j := 11) (dj := 33) (by kernel_rfl) (by kernel_rfl)
          have q33' : a.tmps[33]?.getD undef = .int .i64 m := by have h := q33; simpa [Act.eval] using h
          have q34 : a.eval (.tmp 34) = .int .i64 m := dep_at ho hdep (j := 12) (dj := 34) (by kernel_rfl) (by kernel_rfl)
          have q34' : a.tmps[34]?.getD undef = .int .i64 m := by have h := q34; simpa [Act.eval] using h
          refine spec_run (d := some 35) (op := .buildSlice 36 2 #[(0, .tmp 33), (1, .tmp 34)]) (ty := 36) (v := .slice (some ⟨w.heap.size, 0, none⟩) 2 2) (w' := w.alloc (.cells #[.int .i64 m, .int .i64 m] 3)) ho (by kernel_rfl) (fun pos after => by simp [execOp, q33', q34', go_sem]) (hK _ _ (hI'.alloc _) (dst_ne ho (d := 35) (by kernel_rfl)) ?_ (fun j u _ h => KSpec.alloc _ j u h))
          exact MarkS.new w 2 _ rfl (fun j hj => by match j, hj with | 0, _ => rfl | 1, _ => rfl) (by unfold maxLen; omega)
        | 14, _ =>
          have ql : a.eval (.tmp 32) = .slice al n cl := dep_at ho hdep (j := 10) (dj := 32) (by kernel_rfl) (by kernel_rfl)
          have qx : MarkS m w (a.eval (.tmp 35)) 2 := dep_at ho hdep (j := 13) (dj := 35) (by kernel_rfl) (by kernel_rfl)
          obtain ⟨v, w', hr, h1, h2, h3, h4, h5⟩ := keep_append i0 hi hz0 hz1 hz2 Try.underlying36 36 hI' qx (by omega) (by omega) hn
          exact spec_run (d := some 36) (op := .call { callee := .builtin .append, args := #[.tmp 32, .tmp 35], argTypes := #[36, 36] }) (ty := 36) (v := v) (w' := w') ho (by kernel_rfl) (fun pos after => by simp [execOp, resolve, invoke, builtin, ql, hr, Result.andThen]) (hK _ _ h1 (dst_ne ho (d := 36) (by kernel_rfl)) h2 (fun j u _ h => KSpec.stay h3 h4 h5 j u h))
        | 15, _ => exact spec_run (d := some 37) (op := .move (.tmp 1)) (ty := 36) (v := .slice al n cl) (w' := w) ho (by kernel_rfl) (fun pos after => by simp [execOp, e1]) (hK _ _ hI (dst_ne ho (d := 37) (by kernel_rfl)) rfl (fun _ _ _ h => h))
        | 16, _ => exact spec_run (d := some 38) (op := .move (.tmp 4)) (ty := 3) (v := .int .i64 m) (w' := w) ho (by kernel_rfl) (fun pos after => by simp [execOp, e4]) (hK _ _ hI (dst_ne ho (d := 38) (by kernel_rfl)) rfl (fun _ _ _ h => h))
        | 17, _ => exact spec_run (d := some 39) (op := .move (.tmp 4)) (ty := 3) (v := .int .i64 m) (w' := w) ho (by kernel_rfl) (fun pos after => by simp [execOp, e4]) (hK _ _ hI (dst_ne ho (d := 39) (by kernel_rfl)) rfl (fun _ _ _ h => h))
        | 18, _ => exact spec_run (d := some 40) (op := .move (.tmp 4)) (ty := 3) (v := .int .i64 m) (w' := w) ho (by kernel_rfl) (fun pos after => by simp [execOp, e4]) (hK _ _ hI (dst_ne ho (d := 40) (by kernel_rfl)) rfl (fun _ _ _ h => h))
        | 19, _ => exact spec_run (d := some 41) (op := .move (.tmp 4)) (ty := 3) (v := .int .i64 m) (w' := w) ho (by kernel_rfl) (fun pos after => by simp [execOp, e4]) (hK _ _ hI (dst_ne ho (d := 41) (by kernel_rfl)) rfl (fun _ _ _ h => h))
        | 20, _ => exact spec_run (d := some 42) (op := .move (.tmp 4)) (ty := 3) (v := .int .i64 m) (w' := w) ho (by kernel_rfl) (fun pos after => by simp [execOp, e4]) (hK _ _ hI (dst_ne ho (d := 42) (by kernel_rfl)) rfl (fun _ _ _ h => h))
        | 21, _ => exact spec_run (d := some 43) (op := .move (.tmp 4)) (ty := 3) (v := .int .i64 m) (w' := w) ho (by kernel_rfl) (fun pos after => by simp [execOp, e4]) (hK _ _ hI (dst_ne ho (d := 43) (by kernel_rfl)) rfl (fun _ _ _ h => h))
        | 22, _ =>
          have q38 : a.eval (.tmp 38) = .int .i64 m := dep_at ho hdep (j := 16) (dj := 38) (by kernel_rfl) (by kernel_rfl)
          have q38' : a.tmps[38]?.getD undef = .int .i64 m := by have h := q38; simpa [Act.eval] using h
          have q39 : a.eval (.tmp 39) = .int .i64 m := dep_at ho hdep (j := 17) (dj := 39) (by kernel_rfl) (by kernel_rfl)
          have q39' : a.tmps[39]?.getD undef = .int .i64 m := by have h := q39; simpa [Act.eval] using h
          have q40 : a.eval (.tmp 40) = .int .i64 m := dep_at ho hdep (j := 18) (dj := 40) (by kernel_rfl) (by kernel_rfl)
          have q40' : a.tmps[40]?.getD undef = .int .i64 m := by have h := q40; simpa [Act.eval] using h
          have q41 : a.eval (.tmp 41) = .int .i64 m := dep_at ho hdep (j := 19) (dj := 41) (by kernel_rfl) (by kernel_rfl)
          have q41' : a.tmps[41]?.getD undef = .int .i64 m := by have h := q41; simpa [Act.eval] using h
          have q42 : a.eval (.tmp 42) = .int .i64 m := dep_at ho hdep (j := 20) (dj := 42) (by kernel_rfl) (by kernel_rfl)
          have q42' : a.tmps[42]?.getD undef = .int .i64 m := by have h := q42; simpa [Act.eval] using h
          have q43 : a.eval (.tmp 43) = .int .i64 m := dep_at ho hdep (j := 21) (dj := 43) (by kernel_rfl) (by kernel_rfl)
          have q43' : a.tmps[43]?.getD undef = .int .i64 m := by have h := q43; simpa [Act.eval] using h
          refine spec_run (d := some 44) (op := .buildSlice 36 6 #[(0, .tmp 38), (1, .tmp 39), (2, .tmp 40), (3, .tmp 41), (4, .tmp 42), (5, .tmp 43)]) (ty := 36) (v := .slice (some ⟨w.heap.size, 0, none⟩) 6 6) (w' := w.alloc (.cells #[.int .i64 m, .int .i64 m, .int .i64 m, .int .i64 m, .int .i64 m, .int .i64 m] 3)) ho (by kernel_rfl) (fun pos after => by simp [execOp, q38', q39', q40', q41', q42', q43', go_sem]) (hK _ _ (hI'.alloc _) (dst_ne ho (d := 44) (by kernel_rfl)) ?_ (fun j u _ h => KSpec.alloc _ j u h))
          exact MarkS.new w 6 _ rfl (fun j hj => by match j, hj with | 0, _ => rfl | 1, _ => rfl | 2, _ => rfl | 3, _ => rfl | 4, _ => rfl | 5, _ => rfl) (by unfold maxLen; omega)
        | 23, _ =>
          have ql : a.eval (.tmp 37) = .slice al n cl := dep_at ho hdep (j := 15) (dj := 37) (by kernel_rfl) (by kernel_rfl)
          have qx : MarkS m w (a.eval (.tmp 44)) 6 := dep_at ho hdep (j := 22) (dj := 44) (by kernel_rfl) (by kernel_rfl)
          obtain ⟨v, w', hr, h1, h2, h3, h4, h5⟩ := keep_append i0 hi hz0 hz1 hz2 Try.underlying36 36 hI' qx (by omega) (by omega) hn
          exact spec_run (d := some 45) (op := .call { callee := .builtin .append, args := #[.tmp 37, .tmp 44], argTypes := #[36, 36] }) (ty := 36) (v := v) (w' := w') ho (by kernel_rfl) (fun pos after => by simp [execOp, resolve, invoke, builtin, ql, hr, Result.andThen]) (hK _ _ h1 (dst_ne ho (d := 45) (by kernel_rfl)) h2 (fun j u _ h => KSpec.stay h3 h4 h5 j u h))
        | 24, _ =>
          have q27 : a.eval (.tmp 27) = .slice al n cl := dep_at ho hdep (j := 5) (dj := 27) (by kernel_rfl) (by kernel_rfl)
          have q27' : a.tmps[27]?.getD undef = .slice al n cl := by have h := q27; simpa [Act.eval] using h
          have ⟨h31, o31⟩ : MarkS m w (a.eval (.tmp 31)) (n + 1) ∧ okM (KOk w0 (.slice al n cl)) (a.eval (.tmp 31)) := dep_at ho hdep (j := 9) (dj := 31) (by kernel_rfl) (by kernel_rfl)
          obtain ⟨g31, c31, e31, _⟩ := h31.news
          have q31' : a.tmps[31]?.getD undef = .slice (some ⟨g31, 0, none⟩) (n + 1) c31 := by have h := e31; simpa [Act.eval] using h
          rw [e31] at h31 o31
          have ⟨h36, o36⟩ : MarkS m w (a.eval (.tmp 36)) (n + 2) ∧ okM (KOk w0 (.slice al n cl)) (a.eval (.tmp 36)) := dep_at ho hdep (j := 14) (dj := 36) (by kernel_rfl) (by kernel_rfl)
          obtain ⟨g36, c36, e36, _⟩ := h36.news
          have q36' : a.tmps[36]?.getD undef = .slice (some ⟨g36, 0, none⟩) (n + 2) c36 := by have h := e36; simpa [Act.eval] using h
          rw [e36] at h36 o36
          have ⟨h45, o45⟩ : MarkS m w (a.eval (.tmp 45)) (n + 6) ∧ okM (KOk w0 (.slice al n cl)) (a.eval (.tmp 45)) := dep_at ho hdep (j := 23) (dj := 45) (by kernel_rfl) (by kernel_rfl)
          obtain ⟨g45, c45, e45, _⟩ := h45.news
          have q45' : a.tmps[45]?.getD undef = .slice (some ⟨g45, 0, none⟩) (n + 6) c45 := by have h := e45; simpa [Act.eval] using h
          rw [e45] at h45 o45
          refine spec_run (d := some 46) (op := .buildSlice 62 4 #[(0, .tmp 27), (1, .tmp 31), (2, .tmp 36), (3, .tmp 45)]) (ty := 62) (v := .slice (some ⟨w.heap.size, 0, none⟩) 4 4) (w' := w.alloc (.cells #[.slice al n cl, .slice (some ⟨g31, 0, none⟩) (n + 1) c31, .slice (some ⟨g36, 0, none⟩) (n + 2) c36, .slice (some ⟨g45, 0, none⟩) (n + 6) c45] 36)) ho (by kernel_rfl) (fun pos after => by simp [execOp, q27', q31', q36', q45', go_sem]) (hK _ _ (hI'.alloc _) (dst_ne ho (d := 46) (by kernel_rfl)) ?_ (fun j u _ h => KSpec.alloc _ j u h))
          have hms : MStay m w (w.alloc (.cells #[.slice al n cl, .slice (some ⟨g31, 0, none⟩) (n + 1) c31, .slice (some ⟨g36, 0, none⟩) (n + 2) c36, .slice (some ⟨g45, 0, none⟩) (n + 6) c45] 36)) := MStay.of_keep (KeepT.alloc _ _)
          have hlm := hI'.mark.imp (fun h => h) (fun h => h.stay hms)
          exact ⟨w.heap.size, _, _, _, _, rfl, alloc_new w _, markT_of hlm, h31.stay hms, h36.stay hms, h45.stay hms, hlm, fun a n c e _ => .inl (by cases e; rfl), o31, o36, o45⟩
        | 25, _ =>
          have h46 : EntS (KOk w0 (.slice al n cl)) m n w (a.eval (.tmp 46)) := dep_at ho hdep (j := 24) (dj := 46) (by kernel_rfl) (by kernel_rfl)
          obtain ⟨g46, _, _, _, _, e46, _⟩ := h46
          have h46' : EntS (KOk w0 (.slice al n cl)) m n w (.slice (some ⟨g46, 0, none⟩) 4 4) := by have h : EntS (KOk w0 (.slice al n cl)) m n w (a.eval (.tmp 46)) := dep_at ho hdep (j := 24) (dj := 46) (by kernel_rfl) (by kernel_rfl); rw [e46] at h; exact h
          have q46' : a.tmps[46]?.getD undef = .slice (some ⟨g46, 0, none⟩) 4 4 := by have h := e46; simpa [Act.eval] using h
          refine spec_run (d := some 47) (op := .buildSlice 33 1 #[(0, .tmp 46)]) (ty := 33) (v := .slice (some ⟨w.heap.size, 0, none⟩) 1 1) (w' := w.alloc (.cells #[.slice (some ⟨g46, 0, none⟩) 4 4] 62)) ho (by kernel_rfl) (fun pos after => by simp [execOp, q46', go_sem]) (hK _ _ (hI'.alloc _) (dst_ne ho (d := 47) (by kernel_rfl)) ?_ (fun j u _ h => KSpec.alloc _ j u h))
          exact ⟨w.heap.size, _, hI'.only.size, rfl, alloc_new w _, h46'.stay (MStay.of_keep (KeepT.alloc _ _)) (KeepT.alloc _ _)⟩
        | 26, _ =>
          have q26 : a.eval (.tmp 26) = vl := dep_at ho hdep (j := 4) (dj := 26) (by kernel_rfl) (by kernel_rfl)
          obtain ⟨g47, ee, hge47, e47, hg47, hent⟩ : KSpec w0 B N n m (.slice al n cl) vl es 25 (a.eval (.tmp 47)) w := dep_at ho hdep (j := 25) (dj := 47) (by kernel_rfl) (by kernel_rfl)
          obtain ⟨g', cap', w', hr, h1, h2, h3⟩ := keep_entry i1 hi1 hy0 hy1 hy2 Try.underlying33 33 hI' (fun k hk => (Hrow.out.lt k hk).2) hg47 hent hN
          exact spec_run (d := some 48) (op := .call { callee := .builtin .append, args := #[.tmp 26, .tmp 47], argTypes := #[33, 33] }) (ty := 33) (v := .slice (some ⟨g', 0, none⟩) (N + 1) cap') (w' := w') ho (by kernel_rfl) (fun pos after => by simp [execOp, resolve, invoke, builtin, q26, e47, hr, Result.andThen]) (hK _ _ h1 (dst_ne ho (d := 48) (by kernel_rfl)) h2 h3)
        | 27, _ =>
          have q : a.eval (.tmp 22) = .pointer (some ⟨B, 0, none⟩) := dep_at ho hdep (j := 0) (dj := 22) (by kernel_rfl) (by kernel_rfl)
          have q' : a.tmps[22]?.getD undef = .pointer (some ⟨B, 0, none⟩) := by have h := q; simpa [Act.eval] using h
          exact spec_run (d := some 49) (op := .nilCheck (.tmp 22)) (ty := 0) (v := .pointer (some ⟨B, 0, none⟩)) (w' := w) ho (by kernel_rfl) (fun pos after => by simp [execOp, q', go_sem]) (hK _ _ hI (dst_ne ho (d := 49) (by kernel_rfl)) rfl (fun _ _ _ h => h))
        | 28, _ =>
          have q : a.eval (.tmp 49) = .pointer (some ⟨B, 0, none⟩) := dep_at ho hdep (j := 27) (dj := 49) (by kernel_rfl) (by kernel_rfl)
          have q' : a.tmps[49]?.getD undef = .pointer (some ⟨B, 0, none⟩) := by have h := q; simpa [Act.eval] using h
          exact spec_run (d := some 50) (op := .fieldAddr 35 (.tmp 49) 0) (ty := 0) (v := .pointer (some ⟨B, 0, none⟩)) (w' := w) ho (by kernel_rfl) (fun pos after => by simp [execOp, q', go_sem]) (hK _ _ hI (dst_ne ho (d := 50) (by kernel_rfl)) rfl (fun _ _ _ h => h))
        | 29, _ =>
          have q50 : a.eval (.tmp 50) = .pointer (some ⟨B, 0, none⟩) := dep_at ho hdep (j := 28) (dj := 50) (by kernel_rfl) (by kernel_rfl)
          have q50' : a.tmps[50]?.getD undef = .pointer (some ⟨B, 0, none⟩) := by have h := q50; simpa [Act.eval] using h
          obtain ⟨g48, c48, ee, e48, hown48, hent48, hat48⟩ : KSpec w0 B N n m (.slice al n cl) vl es 26 (a.eval (.tmp 48)) w := dep_at ho hdep (j := 26) (dj := 48) (by kernel_rfl) (by kernel_rfl)
          have q48' : a.tmps[48]?.getD undef = .slice (some ⟨g48, 0, none⟩) (N + 1) c48 := by have h := e48; simpa [Act.eval] using h
          rw [e48] at hown48
          have c0 : w.cell? ⟨B, 0, none⟩ = some vl := by rw [cell_blk hI'.book]; rfl
          have f0 := frozen_blk hI'.book 0
          have ks : ∀ e : TypeId, e ≠ 35 → KeepT e w (w.setCell ⟨B, 0, none⟩ (.slice (some ⟨g48, 0, none⟩) (N + 1) c48)) := fun e he => KeepT.setCell hI'.book he _
          refine spec_skip (d := none) (op := .store 33 (.tmp 50) (.tmp 48)) (ty := 0) (w' := w.setCell ⟨B, 0, none⟩ (.slice (some ⟨g48, 0, none⟩) (N + 1) c48)) ho (by kernel_rfl) (fun pos after => by simp [execOp, q50', q48', c0, f0, go_sem]) (hK _ _ ?_ (fun _ => rfl) trivial (fun j u _ h => KSpec.stay (MStay.of_keep (ks _ (by decide))) (ks _ (by decide)) (ks _ (by decide)) j u h))
          refine ⟨hI'.only.setCell (fun _ => .inl rfl) _, g48, c48, ee, ?_, ?_, hent48.stay (MStay.of_keep (ks _ (by decide))) (ks _ (by decide)), hat48⟩
          · rw [setCell_blk hI'.book]; rfl
          · obtain ⟨q1, q2 | ⟨b, cap, cur, e', hb, hh, rest⟩⟩ := hown48
            · exact ⟨q1, .inl q2⟩
            · exact ⟨q1, .inr ⟨b, cap, cur, e', hb, ks _ (by decide) _ _ _ hh, rest⟩⟩
        | _ + 30, h => exact absurd h (by omega)

end Go.Proofs.Ytaidjhlijadmiaa
