import Derived.Deep.AppendLies
import Derived.Deep.AppendSrc
import Derived.Test.YtlmflighkkgikaaP52

namespace Go.Proofs.Ytlmflighkkgikaa
open Go.RowKit
theorem run_append_row {P : Program} (w : World) (t ty : TypeId) (base : Nat) (e : TypeId) (i : TypeInfo) (z : Value) (bytes : Nat) (ht : P.underlying t = some (.slice e)) (hi : P.info? e = some i) (hz : i.zero = some z)
   (hsize : i.size = 1) (hby : i.bytes = bytes) (hzs : z.cells.size = 1)
   (v : Value) (n : Nat) (xs : List Value) (hown : w.ownsRow base e 1 v n xs) (hn : 0 < n)
   (b2 : Nat) (x : Value) (m : Nat) (news : List Value) (hx : w.ownsRow b2 e 1 x m news) (h1 : ∀ u ∈ news, u.oneCell' = true)
   (h63 : n + m ≤ maxLen) (hbytes : (n + m) * bytes ≤ 140737488355328) (hbase : base ≤ w.heap.size) :
   ∃ g cap w', (Builtin.append_ #[t, t] ty #[v, x]).run P w = .ok (.slice (some ⟨g, 0, none⟩) (n + m) cap) w' ∧
     w'.ownsRow base e 1 (.slice (some ⟨g, 0, none⟩) (n + m) cap) (n + m) (xs ++ news) ∧ w.grownBy w' v.ownBlock := by
 have hc : ∀ g : Nat, x.ownBlock = some g → ∀ j u, news[j]? = some u → w.cell? ((⟨g, 0, none⟩ : Addr).add j) = some u := fun g hg => hx.cells hg
 have hl := hx.1
 rcases hx.2 with ⟨rfl, rfl⟩ | ⟨g2, cap2, cur2, rfl, _⟩
 · obtain ⟨_, ⟨_, q⟩ | ⟨g, cap, cur, rfl, q0, q1, q2, q3, q4, q5⟩⟩ := id hown
   · omega
   · have hnil : news = [] := List.eq_nil_of_length_eq_zero (by omega)
     subst hnil
     have hr := run_append_room_src (P := P) w t t ty e i ht hi g 0 n cap (.slice none 0 0) 0 [] (Src.ofNil w ht 0) (by omega) (fun j hj => by cases hj) (fun j hj => by cases hj)
     refine ⟨g, cap, w, hr, ?_, ⟨rfl, rfl, rfl, Nat.le_refl _, fun _ _ _ => rfl⟩⟩
     rw [List.append_nil]
     exact hown
 · obtain ⟨v', w', hr, h2, h3, _, _⟩ := run_append_own_at (P := P) w base t ty e i z 1 bytes ht hi hz hsize hby hzs (by omega) v n xs hown ⟨g2, 0, none⟩ m cap2 news hl (hc g2 rfl) h1 h63 hbytes hbase
   obtain ⟨g, cap, rfl, _, _⟩ := h2.form (by omega)
   exact ⟨g, cap, w', hr, h2, h3⟩
theorem step_append_row {P : Program} (w : World) {ops : Array Oper} {o : Oper} {a : Act} {K : Act → World → Prop} {Q : Exit → Act → World → Prop} {E : Prop} (hgd : o.guard = none) (s x : Operand) (t : TypeId)
   (ho : o.op = .call { callee := .builtin .append, args := #[s, x], argTypes := #[t, t] })
   (base : Nat) (e : TypeId) (i : TypeInfo) (z : Value) (bytes : Nat) (ht : P.underlying t = some (.slice e)) (hi : P.info? e = some i) (hz : i.zero = some z)
   (hsize : i.size = 1) (hby : i.bytes = bytes) (hzs : z.cells.size = 1)
   (v : Value) (n : Nat) (xs : List Value) (hs : a.eval s = v) (hown : w.ownsRow base e 1 v n xs) (hn : 0 < n)
   (b2 : Nat) (x' : Value) (m : Nat) (news : List Value) (hx : a.eval x = x') (hxo : w.ownsRow b2 e 1 x' m news) (h1 : ∀ u ∈ news, u.oneCell' = true)
   (h63 : n + m ≤ maxLen) (hbytes : (n + m) * bytes ≤ 140737488355328) (hbase : base ≤ w.heap.size)
   (h : ∀ g cap w', w'.ownsRow base e 1 (.slice (some ⟨g, 0, none⟩) (n + m) cap) (n + m) (xs ++ news) → w.grownBy w' v.ownBlock → K (a.put o.dst (.slice (some ⟨g, 0, none⟩) (n + m) cap)) w') :
   if Region.wanted o (yielded ops a.tmps) = true then Oper.wp P o a w K Q else E := by
 have hw : Region.wanted o (yielded ops a.tmps) = true := by simp [Region.wanted, hgd]
 rw [if_pos hw]
 obtain ⟨g, cap, w', hr, h2, h3⟩ := run_append_row (P := P) w t o.type base e i z bytes ht hi hz hsize hby hzs v n xs hown hn b2 x' m news hxo h1 h63 hbytes hbase
 unfold Oper.wp execOp
 simp only [ho, resolve, invoke, builtin, Sem.run_bind, Sem.run_pure, Result.andThen_ok, List.map_toArray, List.map_cons, List.map_nil, hs, hx, hr]
 exact h g cap w' h2 h3
theorem two_rowsT {w : World} {base : Nat} {v : Value} {a b vo : Nat} {f g : Nat → Int} (h : w.ownsRow base 3 1 v (a + b) (((List.range a).map fun i => .int .i64 (f i)) ++ (List.range b).map fun i => .int .i64 (g i))) (hf : ∀ j, j < a → ¬ badTok vo (f j)) (hg : ∀ j, j < b → ¬ badTok vo (g j)) :
   ∃ F : Nat → Int, IntsT w v (a + b) F ∧ natsOf (a + b) F = natsOf a f ++ natsOf b g ∧ ∀ j, j < a + b → ¬ badTok vo (F j) := by
 have hl : ((List.range a).map f ++ (List.range b).map g).length = a + b := by simp
 have e : iv ((List.range a).map f ++ (List.range b).map g) = ((List.range a).map fun i => .int .i64 (f i)) ++ (List.range b).map fun i => .int .i64 (g i) := by rw [iv_app, iv_range, iv_range]
 have h' : w.ownsRow base 3 1 v ((List.range a).map f ++ (List.range b).map g).length (iv ((List.range a).map f ++ (List.range b).map g)) := by rw [hl, e]; exact h
 have hi := ints_of_iv h'
 have hn := natsOf_two a b f g
 rw [hl] at hi hn
 refine ⟨_, hi, hn, fun j hj => ?_⟩
 rw [List.getD_eq_getElem?_getD, List.getElem?_append]
 by_cases h1 : j < a
 · rw [if_pos (by simpa using h1), List.getElem?_map, List.getElem?_range h1]
   exact hf j h1
 · rw [if_neg (by simpa using h1), List.getElem?_map]
   have e1 : ((List.range a).map f).length = a := by simp
   rw [e1, List.getElem?_range (by omega)]
   exact hg _ (by omega)
end Go.Proofs.Ytlmflighkkgikaa
