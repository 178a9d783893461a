import Derived.Maps.OwnSet
import Derived.Test.YtaidjhlijadmiaaP01
import Derived.Test.YtaidjhlijadmiaaP02

/-
  The weights.
-/
namespace Go.Proofs.Ytaidjhlijadmiaa
open Go.RowKit

/-- One step of the mixing: XORed with itself shifted, multiplied. -/
def mixStep (u d c : Int) : Int := IntKind.u64.wrap (bits .xor .u64 u (u / d) * c)

/-- The weight that a state gives. -/
def mixI (u : Int) : Int :=
  (bits .xor .u64 (mixStep (mixStep u 1073741824 13787848793156543929) 134217728 10723151780598845931) (mixStep (mixStep u 1073741824 13787848793156543929) 134217728 10723151780598845931 / 2147483648)).tmod 17 - 8

/-- The weight with the number n, of a seed. -/
def weightI (s : Int) (n : Nat) : Int := mixI ((s + 11400714819323198485 * (n + 1)) % 18446744073709551616)

theorem u64_wrap (x : Int) : IntKind.u64.wrap x = x % 18446744073709551616 := by rw [IntKind.wrap_u64]

theorem tmod17 (x : Int) : -16 ≤ x.tmod 17 ∧ x.tmod 17 ≤ 16 := by
  have h1 := Int.tmod_lt_of_pos x (show (0 : Int) < 17 by omega)
  have h2 := Int.lt_tmod_of_pos x (show (0 : Int) < 17 by omega)
  omega

theorem weight_wraps (x : Int) : wrap64 (wrap64 (x.tmod 17) - 8) = x.tmod 17 - 8 := by
  have h := tmod17 x
  rw [IntWalk.wrap64_in (x.tmod 17) ⟨by omega, by omega⟩, IntWalk.wrap64_in _ ⟨by omega, by omega⟩]

theorem weight_state (s : Int) (n : Nat) :
    IntKind.u64.wrap (s + IntKind.u64.wrap (11400714819323198485 * ((n : Int) + 1))) = (s + 11400714819323198485 * (n + 1)) % 18446744073709551616 := by
  simp only [u64_wrap]; omega

set_option maxRecDepth 100000 in
set_option maxHeartbeats 400000 in
theorem weight_any (s : Int) (n : Nat) (w : World) (hs : 0 ≤ s ∧ s < 18446744073709551616) (hn : n ≤ 100000) :
    Calls Try.prog 78 #[.int .u64 s, .int .u64 n] w fun e w' => e = .returned (.int .i64 (weightI s n)) ∧ w' = w := by
  have HS := hide (weight_state s n)
  obtain ⟨a1, a2⟩ := hs
  go_enter Try.func78, Try.ntmps78
  go_wp2
  go_ret
  refine ⟨ret_int ?_, rfl⟩
  rw [weight_wraps]
  unfold weightI mixI mixStep
  rw [← HS.out]


theorem mixI_bd (u : Int) : -8 ≤ mixI u ∧ mixI u ≤ 8 := by
  unfold mixI
  generalize mixStep (mixStep u 1073741824 13787848793156543929) 134217728 10723151780598845931 = x
  have h0 : 0 ≤ bits .xor .u64 x (x / 2147483648) := (bits_within .xor .u64 _ _).1
  have h1 := Int.tmod_lt_of_pos (bits .xor .u64 x (x / 2147483648)) (show (0 : Int) < 17 by omega)
  have h2 := Int.tmod_nonneg 17 h0
  omega

theorem weightI_bd (s : Int) (n : Nat) : -8 ≤ weightI s n ∧ weightI s n ≤ 8 := mixI_bd _

end Go.Proofs.Ytaidjhlijadmiaa

/-
  Maps from integers, by functions: what lies at each key. Nothing of the program.
-/
namespace Go.Proofs.Ytaidjhlijadmiaa
open Go.RowKit

/-- An element reads as the value that it is. -/
def heldElem (v : Value) : Option (DataW Value × List MemPlace) := some (.held v, [])

/-- Block b is a map from integers with n entries; M tells what lies at each key. -/
def MapV (P : Program) (k : TypeId) (w : World) (b n : Nat) (M : Int → Option Value) : Prop :=
  ∃ D : DataW Value, w.ownsMap P k heldElem b n D ∧ Maps.size D = n ∧ ∀ x : Int, (Lit.int .i64 x).wf = true → Maps.has D (.int .i64 x) = (M x).isSome ∧ ∀ v, M x = some v → ∀ z, D.atKey (.int .i64 x) z = .held v

section
variable {P : Program} {k e t : TypeId} {w w' : World} {b n : Nat} {M : Int → Option Value}

theorem MapV.obj (h : MapV P k w b n M) : ∃ es clock, w.heap[b]? = some (.map es clock) := by
  obtain ⟨D, ⟨es, clock, hb, _⟩, _⟩ := h
  exact ⟨es, clock, hb⟩

theorem MapV.lt (h : MapV P k w b n M) : b < w.heap.size := by
  obtain ⟨es, clock, hb⟩ := h.obj
  exact lt_blk hb

theorem MapV.keep (h : MapV P k w b n M) (hk : w'.heap[b]? = w.heap[b]?) : MapV P k w' b n M := by
  obtain ⟨D, ⟨es, clock, hb, r⟩, r'⟩ := h
  exact ⟨D, ⟨es, clock, hk.trans hb, r⟩, r'⟩

theorem MapV.made (P : Program) (k : TypeId) (w : World) : MapV P k (w.alloc (.map #[] 0)) w.heap.size 0 (fun _ => none) :=
  ⟨.map [], World.ownsMap_made w P k heldElem, rfl, fun x _ => ⟨rfl, fun v h => by cases h⟩⟩

theorem MapV.look (h : MapV P k w b n M) (hk : P.underlying k = some (.int .i64)) (ht : P.underlying t = some (.map k e)) {z : Value} (hz : (zeroValue e).run P w = .ok z w) (x : Int) (hx : (Lit.int .i64 x).wf = true) :
    (Instr.lookup t (.map (some b)) (.int .i64 x) true).run P w = .ok (.tuple #[(M x).getD z, .bool (M x).isSome]) w := by
  obtain ⟨D, h1, _, h2⟩ := h
  obtain ⟨v, ps, hrun, hv⟩ := h1.look_ok (Maps.int_keyed hk) ht hz (zd := .held z) (zp := []) rfl (Maps.keyOf_int_mk hk hx)
  obtain ⟨g1, g2⟩ := h2 x hx
  rw [hrun, g1]
  unfold heldElem at hv
  cases hm : M x with
  | none =>
    rw [hm] at g1
    rw [Maps.atKey_of_not_has g1] at hv
    simp at hv
    rw [hv.1]; rfl
  | some u =>
    rw [g2 u hm] at hv
    simp at hv
    rw [hv.1]; rfl

theorem MapV.len (h : MapV P k w b n M) (ht : P.underlying t = some (.map k e)) (ty : TypeId) : (Builtin.len_ #[t] ty #[.map (some b)]).run P w = .ok (.int .i64 n) w := by
  obtain ⟨D, h1, h2, _⟩ := h
  rw [h1.len ht ty, h2]

/-- A new key. -/
theorem MapV.store (h : MapV P k w b n M) (hk : P.underlying k = some (.int .i64)) (ht : P.underlying t = some (.map k e)) (hn : n < maxLen) (x : Int) (hx : (Lit.int .i64 x).wf = true) (hM : M x = none) (v : Value) :
    ∃ w', (Instr.mapUpdate t (.map (some b)) (.int .i64 x) v).run P w = .ok () w' ∧ MapV P k w' b (n + 1) (fun y => if y = x then some v else M y) ∧ w.grownBy w' (some b) ∧ w'.heap.size = w.heap.size := by
  obtain ⟨D, h1, h2, h3⟩ := h
  obtain ⟨w', hrun, h4, h5⟩ := h1.store (Maps.int_keyed hk) ht hn (Maps.keyOf_int_mk hk hx) (d := .held v) (ps := []) (val := v) rfl
  have g1 := (h3 x hx).1
  rw [hM] at g1
  refine ⟨w', hrun, ⟨D.put (.int .i64 x) (.held v), h4, ?_, fun y hy => ?_⟩, h5.grown, ?_⟩
  · have := Maps.size_put (k := .int .i64 x) (h1.tidy (Maps.int_keyed hk)) (.held v)
    rw [g1] at this
    simp at this
    omega
  · by_cases e1 : y = x
    · subst e1
      simp only [if_true]
      exact ⟨Maps.has_put_same (k := .int .i64 y) h1.isMap trivial _, fun u hu z => by cases hu; exact Maps.atKey_put_same (k := .int .i64 y) h1.isMap trivial _ _⟩
    · have hne : Lit.int .i64 y ≠ .int .i64 x := fun h => e1 (by injection h)
      simp only [if_neg e1]
      rw [Maps.has_put_other hne]
      exact ⟨(h3 y hy).1, fun u hu z => by rw [Maps.atKey_put_other hne]; exact (h3 y hy).2 u hu z⟩
  · obtain ⟨es, clock, es', clock', hb, rfl⟩ := h5
    simp [ChangeMaps.setBlock]
end

end Go.Proofs.Ytaidjhlijadmiaa
