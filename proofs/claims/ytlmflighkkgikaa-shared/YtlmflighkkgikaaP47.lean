import Derived.Test.YtlmflighkkgikaaRows
import Derived.ProofKit
import Derived.ChangeSlices
import Derived.Deep.Slices
import Derived.Deep.Strs
import Derived.SizedLaws
import Derived.Carry
import Derived.OpenShut
import Derived.Test.YtlmflighkkgikaaP45
import Derived.Test.YtlmflighkkgikaaP46

namespace Go.Proofs.Ytlmflighkkgikaa
open Go.ChangeShapes Go.WideShapes Go.ChangeAt Go.RowKit Go.Deep
theorem kown : ownKnob Try.prog.godebug = none := by kernel_rfl
theorem klaid : laidOutB Try.prog = true := by kernel_rfl
theorem Try.kcells_int : Try.prog.cellsOf 3 = 1 := by kernel_rfl
theorem Try.kcells_shape : Try.prog.cellsOf 23 = 5 := by kernel_rfl
structure ActsI (W0 : World) (a : Option Addr) (n cap : Nat) (act : Nat → ActD) : Prop where
 le : n ≤ cap
 cap : cap ≤ maxLen
 spots : ∀ i, i < n → ∃ b off, a = some ⟨b, off, none⟩ ∧ b < W0.heap.size ∧ W0.cell? ⟨b, off + i * 4, none⟩ = some (.int .i64 (act i).K) ∧ W0.cell? ⟨b, off + i * 4 + 1, none⟩ = some (.int .i64 (act i).A) ∧ W0.cell? ⟨b, off + i * 4 + 2, none⟩ = some (.int .i64 (act i).B) ∧ W0.cell? ⟨b, off + i * 4 + 3, none⟩ = some (act i).vT
 ok : ∀ i, i < n → (act i).ok W0
theorem ActsI.below {W0 W : World} {a : Option Addr} {n cap : Nat} {act : Nat → ActD} (hS : ActsI W0 a n cap act) (hb : Below W0.heap.size W0 W) : ActsI W a n cap act :=
 ⟨hS.le, hS.cap, fun i hi => by
     obtain ⟨b, off, e, hlt, h0, h1, h2, h3⟩ := hS.spots i hi
     exact ⟨b, off, e, Nat.lt_of_lt_of_le hlt hb.size, (hb.cell (p := ⟨b, _, none⟩) hlt).trans h0, (hb.cell (p := ⟨b, _, none⟩) hlt).trans h1, (hb.cell (p := ⟨b, _, none⟩) hlt).trans h2, (hb.cell (p := ⟨b, _, none⟩) hlt).trans h3⟩, fun i hi => by
     obtain ⟨q1, q2, q3, q4, q5⟩ := hS.ok i hi
     exact ⟨q1, q2, q3, q4.below hb, q5⟩⟩
section
variable {H : Type} {enc : TypeId × Value → H}
theorem wf_kI {x : Int} (h : (Lit.int .i64 x).wf = true) : kI x := by
 unfold kI
 simp [Lit.wf, IntKind.min, IntKind.max, IntKind.bits, IntKind.signed] at h
 omega
set_option maxRecDepth 100000 in
theorem open_int {W : World} {base : Nat} {sp : Nat → Bool} {v : Value} {d : DataW H} {p : List MemPlace} (hval : Value.okWide Try.prog W .any base 3 v) (h : DataW.Trod enc Try.prog W 0 sp true 3 v d p) : ∃ z : Int, v = .int .i64 z ∧ kI z := by
 obtain ⟨fuel, hf⟩ := h
 obtain ⟨z, e, _, hw⟩ := DataW.trod_int Try.underlying3 hf
 refine ⟨z, ?_, wf_kI hw⟩
 obtain ⟨z', rfl⟩ := okWide_int Try.underlying3 hval
 simp [Value.cells] at e
 rw [e]
set_option maxRecDepth 100000 in
theorem open_shape {W : World} {base : Nat} {sp : Nat → Bool} {v : Value} {d : DataW H} {p : List MemPlace} (hval : Value.okWide Try.prog W .any base 23 v) (h : DataW.Trod enc Try.prog W 0 sp true 23 v d p) : ∃ s : ShapeD, v = .agg #[.int .i64 s.l, .int .i64 s.h, .int .i64 s.p, .int .i64 s.v, .int .i64 s.s] ∧ s.ok := by
 obtain ⟨cs, rfl, hsz⟩ := okWide_struct Try.underlying23 hval
 rw [Try.kcells_shape] at hsz
 obtain ⟨fuel, hf⟩ := h
 obtain ⟨xs, n, _, hx, hl, hlen, hfld⟩ := DataW.trod_struct Try.underlying23 hf
 have hlen5 : xs.length = 5 := by rw [hlen]; rfl
 obtain ⟨c0, c1, c2, c3, c4, rfl⟩ : ∃ c0 c1 c2 c3 c4, cs = #[c0, c1, c2, c3, c4] := by
   obtain ⟨l⟩ := cs
   match l, hsz with
   | [c0, c1, c2, c3, c4], _ => exact ⟨c0, c1, c2, c3, c4, rfl⟩
 have get : ∀ c, (∃ y, DataW.trod enc Try.prog W 0 sp true n 3 [c] = some y) → ∃ z, c = .int .i64 z ∧ kI z := fun c ⟨y, hy⟩ => by
   obtain ⟨z, e, _, hw⟩ := DataW.trod_int Try.underlying3 hy
   simp at e
   exact ⟨z, e, wf_kI hw⟩
 obtain ⟨z0, rfl, h0⟩ := get c0 ⟨_, by have := hfld 0 _ rfl; simpa [Value.cells, Try.kcells_int, hlen5] using this⟩
 obtain ⟨z1, rfl, h1⟩ := get c1 ⟨_, by have := hfld 1 _ rfl; simpa [Value.cells, Try.kcells_int, hlen5] using this⟩
 obtain ⟨z2, rfl, h2⟩ := get c2 ⟨_, by have := hfld 2 _ rfl; simpa [Value.cells, Try.kcells_int, hlen5] using this⟩
 obtain ⟨z3, rfl, h3⟩ := get c3 ⟨_, by have := hfld 3 _ rfl; simpa [Value.cells, Try.kcells_int, hlen5] using this⟩
 obtain ⟨z4, rfl, h4⟩ := get c4 ⟨_, by have := hfld 4 _ rfl; simpa [Value.cells, Try.kcells_int, hlen5] using this⟩
 exact ⟨⟨z0, z1, z2, z3, z4⟩, rfl, h0, h1, h2, h3, h4⟩
theorem kcell_lt {w : World} {b o : Nat} {v : Value} (h : w.cell? ⟨b, o, none⟩ = some v) : b < w.heap.size := by
 by_cases hb : b < w.heap.size
 · exact hb
 · simp [World.cell?, Array.getElem?_eq_none (Nat.le_of_not_lt hb)] at h
set_option maxRecDepth 100000 in
theorem list_of {W : World} {m : Nat} {v : Value} {y : DataW H × List MemPlace} (h : DataW.trod enc Try.prog W 0 (fun _ => true) true m 24 [v] = some y) : ∃ n f, Ints W v n f ∧ ∀ j, j < n → kI (f j) := by
 rcases open_ints Try.underlying24 Try.underlying3 Try.kcells_int h with ⟨e, _⟩ | ⟨a, len, cap, zs, e, _, hlc, hcm, hzl, hy, hcl, hwf⟩
 · simp at e
   subst e
   exact ⟨0, fun _ => 0, (ints_nil W _).ints, fun j hj => absurd hj (by omega)⟩
 · simp at e
   subst e
   simp only [if_true] at hzl
   refine ⟨len, fun j => zs.getD j 0, ⟨_, cap, rfl, hlc, hcm, fun h0 => ?_⟩, fun j hj => wf_kI (hwf _ ?_)⟩
   · have hc0 := hcl 0 (by omega)
     obtain ⟨ab, ao, asp⟩ := a
     have hsp : asp = none := by simpa [Addr.add] using World.cell?_spot hc0
     subst hsp
     refine ⟨ab, ao, rfl, kcell_lt (o := ao + 0) (by rw [addr_add] at hc0; exact hc0), fun j hj => ?_⟩
     have hcj := hcl j (by omega)
     rw [addr_add] at hcj
     exact hcj
   · show zs.getD j 0 ∈ zs
     rw [List.getD_eq_getElem?_getD, List.getElem?_eq_getElem (by omega)]
     simp
set_option maxRecDepth 100000 in
theorem open_list {W : World} {base : Nat} {v : Value} {d : DataW H} {p : List MemPlace} (hval : Value.okWide Try.prog W .any base 24 v) (h : DataW.Trod enc Try.prog W 0 (fun _ => true) true 24 v d p) : ∃ n f, Ints W v n f ∧ ∀ j, j < n → kI (f j) := by
 obtain ⟨a0, len, cap, rfl⟩ := okWide_slice Try.underlying24 hval
 obtain ⟨fuel, hf⟩ := h
 simp only [Value.cells] at hf
 exact list_of hf
end
end Go.Proofs.Ytlmflighkkgikaa
namespace Go.Proofs.Ytlmflighkkgikaa
open Go.RowKit
theorem HeldK.low {B0 B1 : Nat} {w : World} {p : HD} (h : HeldK B1 w p) (hle : B0 ≤ B1) : HeldK B0 w p :=
 ⟨h.cok, h.held, fun k hk => ⟨Nat.le_trans hle (h.lo k hk).1, (h.lo k hk).2⟩⟩
structure TwoK (B0 : Nat) (wb w : World) (X Y : Nat) (c d : Cfg) (p q : HD) : Prop where
 hp : HeldK B0 w p
 hq : HeldK B0 w q
 ap : ∀ k, p.S k → ¬ q.S k
 ip : idsK p.L
 iq : idsK q.L
 tk : ∀ k, tkM p.L k = tkM q.L k
 bel : Below B0 wb w
 X : p.g.X = X
 Y : q.g.X = Y
 c : p.c = c
 d : q.c = d
 B : B0 ≤ wb.heap.size
section
variable {B0 : Nat} {wb w : World} {X Y : Nat} {c d : Cfg} {p q : HD}
theorem TwoK.size (h : TwoK B0 wb w X Y c d p q) : B0 ≤ w.heap.size := Nat.le_trans h.B h.bel.size
theorem TwoK.below {w' : World} (h : TwoK B0 wb w X Y c d p q) (hb : Below w.heap.size w w') : TwoK B0 wb w' X Y c d p q :=
 ⟨h.hp.below hb, h.hq.below hb, h.ap, h.ip, h.iq, h.tk, h.bel.trans (hb.mono h.size), h.X, h.Y, h.c, h.d, h.B⟩
theorem apart_symm {p q q' : HD} {w w' : World} {B0 : Nat} (h : HeldK B0 w p) (hq : ActedK w w' q q') (hd : ∀ k, q.S k → ¬ p.S k) : HeldK B0 w' p ∧ ∀ k, q'.S k → ¬ p.S k := by
 obtain ⟨a, b⟩ := apart_acted h hq (fun k hk hk' => hd k hk' hk)
 exact ⟨a, fun k hk hk' => b k hk' hk⟩
structure HalfK (B0 : Nat) (wb w : World) (X Y : Nat) (c d : Cfg) (p q p' : HD) (a : ActD) (code : Nat) (v : Value) : Prop where
 hp : HeldK B0 w p'
 hq : HeldK B0 w q
 ap : ∀ k, p'.S k → ¬ q.S k
 iq : idsK q.L
 tk : ∀ k, tkM p.L k = tkM q.L k
 bel : Below B0 wb w
 X : p'.g.X = X
 Y : q.g.X = Y
 c0 : p.c = c
 c : p'.c = c
 d : q.c = d
 B : B0 ≤ wb.heap.size
 did : DidK w p p' a code v
end
end Go.Proofs.Ytlmflighkkgikaa
