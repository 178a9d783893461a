import Derived.WalkKit
import Derived.Test.YtaidjhlijadmiaaProg
import Derived.Deep.RegionLaw
import Derived.OrdersHeld

/-
  A call of a Go function as one step of a region that draws its order.
-/
namespace Go.Proofs.Ytaidjhlijadmiaa

theorem step_call {P : Program} {ops : Array Oper} {o : Oper} {a : Act} {w : World} {K : Act → World → Prop} {Q : Exit → Act → World → Prop} {E : Prop}
    (hg : o.guard = none) (f : FuncId) {fn : Func} (hfn : P.funcs[f]? = some fn) (hfn1 : (fn.name == "runtime.NumGoroutine") = false) (hfn2 : fn.body.isNone = false) (xs : Array Operand) (ts : Array TypeId) (hop : o.op = Op.call { callee := Callee.value (Operand.func f), args := xs, argTypes := ts })
    (vs : Array Value) (hvs : xs.map a.eval = vs) {R : Value → World → Prop} (h : Calls P f vs w fun e w' => ∃ v, e = .returned v ∧ R v w') (hK : ∀ v w', R v w' → K (a.put o.dst v) w') :
    if Region.wanted o (yielded ops a.tmps) = true then Oper.wp P o a w K Q else E := by
  have hw : Region.wanted o (yielded ops a.tmps) = true := by simp [Region.wanted, hg]
  rw [if_pos hw]
  unfold Oper.wp
  subst hvs
  have hrun : (execOp a.eval o).run P w = .ok (.enter f (xs.map a.eval)) w := by
    have e1 : execOp a.eval o = callFunc f (#[] ++ xs.map a.eval ++ #[]) := by
      unfold execOp
      rw [hop]
      rfl
    rw [e1]
    have n1 : ¬ fn.name = "runtime.NumGoroutine" := by simpa using hfn1
    have n2 : ¬ fn.body = none := fun h => by rw [h] at hfn2; simp at hfn2
    simp [callFunc, program, Sem.run, Result.andThen, hfn, n1, n2, go_sem]
  rw [hrun, Oper.upon_enter]
  refine h.mono ?_
  rintro e w' ⟨v, rfl, hR⟩
  exact hK v w' hR

end Go.Proofs.Ytaidjhlijadmiaa

/-
  A region that draws its order, and in which the last store writes a cell that an earlier load reads: the condition on the world is asked only behind those operations that could come ahead of the loads ('need').
-/
namespace Go.Proofs.Ytaidjhlijadmiaa

section
variable {P : Program} {ops : Array Oper} {Q : Exit → Act → World → Prop} {md : Region.Mode} {S : World → Prop} {need : Nat → Bool}

/-- Whatever order is picked from here on; S behind every operation that is asked for. -/
def wpAnyN (P : Program) (md : Region.Mode) (ops : Array Oper) (Q : Exit → Act → World → Prop) (S : World → Prop) (need : Nat → Bool) : Nat → Array Bool → Act → World → Prop
  | 0, listed, a, w => Region.ready md ops listed = [] ∧ Q .normal a w
  | fuel + 1, listed, a, w => (Region.ready md ops listed = [] → Q .normal a w) ∧
      ∀ i ∈ Region.ready md ops listed, wpOp P ops Q i (fun a' w' => (need i = true → S w') ∧ wpAnyN P md ops Q S need fuel (listed.setIfInBounds i true) a' w') a w

theorem wpAny_of_N : ∀ (fuel : Nat) (listed : Array Bool) (a : Act) (w : World), wpAnyN P md ops Q S need fuel listed a w → wpAny P md ops Q fuel listed a w
  | 0, _, _, _, h => h
  | fuel + 1, _, _, _, h => ⟨h.1, fun i hi => wpOp_mono (fun a' w' h' => wpAny_of_N fuel _ a' w' h'.2) (h.2 i hi)⟩

/-- An operation that may come up now, and yields v wherever S holds, may be taken first: if every other one that has not come up waits for it, or is apart from it and keeps S. -/
theorem wpAnyN_first {i : Nat} {oi : Oper} {v : Value} (hi : ops[i]? = some oi) (hsel : ∀ (j : Nat) (o : Oper) cs b, ops[j]? = some o → o.op ≠ .select cs b)
    (hQ : ∀ c a w, Q (.panic c) (a.put oi.dst v) w → Q (.panic c) a w)
    (hneed : ∀ (j : Nat) (oj : Oper), ops[j]? = some oj → need j = false → ∃ e ∈ oj.after, Region.binds md e = true ∧ e.on = i) :
    ∀ (fuel : Nat) (listed : Array Bool) (a : Act) (w : World),
      (∀ (j : Nat) (oj : Oper), ops[j]? = some oj → j ≠ i → listed.getD j true = false → (∀ e ∈ oj.after, Region.binds md e = true → e.on ≠ i) → oi.apart ops oj = true) →
      i ∈ Region.ready md ops listed → YieldsIf P ops S oi v a → S w →
      wpAnyN P md ops Q S need fuel (listed.setIfInBounds i true) (a.put oi.dst v) w → wpAnyN P md ops Q S need (fuel + 1) listed a w := by
  intro fuel
  induction fuel with
  | zero =>
    intro listed a w _ hr hy hS H
    refine ⟨fun h => (by rw [h] at hr; cases hr), fun j hj => ?_⟩
    by_cases hji : j = i
    · subst hji; exact hy.wpOp hi hS ⟨fun _ => hS, H⟩
    · have hm := ready_mono hj hji
      rw [H.1] at hm
      cases hm
  | succ fuel ih =>
    intro listed a w hfree hr hy hS H
    refine ⟨fun h => (by rw [h] at hr; cases hr), fun j hj => ?_⟩
    by_cases hji : j = i
    · subst hji; exact hy.wpOp hi hS ⟨fun _ => hS, H⟩
    · have hstep := H.2 j (ready_mono hj hji)
      obtain ⟨hun, oj, hoj, hall⟩ := mem_ready.1 hj
      have hwait : ∀ e ∈ oj.after, Region.binds md e = true → e.on ≠ i := by
        intro e he hb heq
        have h1 := hall e he hb
        have h0 := (mem_ready.1 hr).1
        rw [heq] at h1
        rcases Nat.lt_or_ge i listed.size with hs | hs
        · simp [hs] at h0 h1; rw [h0] at h1; cases h1
        · simp [Array.getElem?_eq_none hs] at h1
      have hnj : need j = true := by
        cases hn : need j with
        | true => rfl
        | false =>
          obtain ⟨e, he, hb, ho⟩ := hneed j oj hoj hn
          exact absurd ho (hwait e he hb)
      have hcomm := wpOp_putIf hoj (hfree j oj hoj hji hun hwait) (fun cs b => hsel i oi cs b hi) (fun cs b => hsel j oj cs b hoj) hQ hy hstep
      refine wpOp_mono (fun a' w' h3 => ⟨h3.2.1, ih (listed.setIfInBounds j true) a' w' ?_ (ready_mono hr (Ne.symm hji)) h3.1 (h3.2.1 hnj) ?_⟩) hcomm
      · intro k ok hk hki hunk hno
        refine hfree k ok hk hki ?_ hno
        by_cases hjk : j = k
        · subst hjk; exact hun
        · rw [getD_set_ne true hjk] at hunk; exact hunk
      · rw [Array.setIfInBounds_comm _ _ hji]
        exact h3.2.2

/-- The side conditions as Bools. -/
def waitsOn (md : Region.Mode) (o : Oper) (i : Nat) : Bool := o.after.any (fun e => Region.binds md e && e.on == i)
def needOk (md : Region.Mode) (ops : Array Oper) (need : Nat → Bool) (i : Nat) : Bool := (List.range ops.size).all (fun j => need j || (match ops[j]? with | some o => waitsOn md o i | none => true))

theorem needOk_spec {i : Nat} (h : needOk md ops need i = true) : ∀ (j : Nat) (oj : Oper), ops[j]? = some oj → need j = false → ∃ e ∈ oj.after, Region.binds md e = true ∧ e.on = i := by
  intro j oj hj hn
  unfold needOk at h
  rw [List.all_eq_true] at h
  have := h j (List.mem_range.2 (Array.getElem?_eq_some_iff.1 hj).1)
  rw [hn, hj] at this
  simp [waitsOn] at this
  obtain ⟨k, hk, h1, h2⟩ := this
  exact ⟨oj.after[k], by simp, h1, h2⟩

theorem wpAnyN_take {i : Nat} {oi : Oper} {v : Value} {fuel : Nat} {listed : Array Bool} {a : Act} {w : World} (hi : ops[i]? = some oi)
    (hs : Region.noSelect ops = true) (hf : Region.free md ops listed i = true) (hr : (Region.ready md ops listed).contains i = true) (hn : needOk md ops need i = true)
    (hQ : ∀ c a w, Q (.panic c) (a.put oi.dst v) w → Q (.panic c) a w) (hy : YieldsIf P ops S oi v a) (hS : S w)
    (h : wpAnyN P md ops Q S need fuel (listed.setIfInBounds i true) (a.put oi.dst v) w) : wpAnyN P md ops Q S need (fuel + 1) listed a w :=
  wpAnyN_first hi (Region.noSelect_spec hs) hQ (needOk_spec hn) fuel listed a w (Region.free_spec hi hf) (by simpa using hr) hy hS h

/-- The same, with the place where the value goes written out. -/
theorem wpAnyN_takeD {i : Nat} {oi : Oper} {d : Option Tmp} {v : Value} {fuel : Nat} {listed : Array Bool} {a : Act} {w : World} (hi : ops[i]? = some oi) (hd : (ops[i]?).map (·.dst) = some d)
    (hs : Region.noSelect ops = true) (hf : Region.free md ops listed i = true) (hr : (Region.ready md ops listed).contains i = true) (hn : needOk md ops need i = true)
    (hQ : ∀ c a w, Q (.panic c) (a.put d v) w → Q (.panic c) a w) (hy : YieldsIf P ops S oi v a) (hS : S w)
    (h : wpAnyN P md ops Q S need fuel (listed.setIfInBounds i true) (a.put d v) w) : wpAnyN P md ops Q S need (fuel + 1) listed a w := by
  rw [hi] at hd
  injection hd with hd
  subst hd
  exact wpAnyN_take hi hs hf hr hn hQ hy hS h

/-- Just one may come up. -/
theorem wpAnyN_one {i : Nat} {fuel : Nat} {listed : Array Bool} {a : Act} {w : World} (hr : Region.ready md ops listed = [i])
    (h : wpOp P ops Q i (fun a' w' => (need i = true → S w') ∧ wpAnyN P md ops Q S need fuel (listed.setIfInBounds i true) a' w') a w) : wpAnyN P md ops Q S need (fuel + 1) listed a w :=
  ⟨fun h0 => (by rw [hr] at h0; cases h0), fun j hj => (by rw [hr] at hj; simp at hj; subst hj; exact h)⟩

theorem wpAnyN_done {listed : Array Bool} {a : Act} {w : World} (hr : Region.ready md ops listed = []) (h : Q .normal a w) : ∀ fuel, wpAnyN P md ops Q S need fuel listed a w
  | 0 => ⟨hr, h⟩
  | _ + 1 => ⟨fun _ => h, by rw [hr]; simp⟩

/-- An operation without a guard. -/
theorem wpOp_of {i : Nat} {o : Oper} {K : Act → World → Prop} {a : Act} {w : World} (hi : ops[i]? = some o) (hg : o.guard = none) (h : Oper.wp P o a w K Q) : wpOp P ops Q i K a w := by
  unfold wpOp
  have hw : Region.wanted o (yielded ops a.tmps) = true := by simp [Region.wanted, hg]
  simp only [hi, hw, if_true]
  exact .inl h

/-- .. that yields a value and leaves a world. -/
theorem wp_of_run {o : Oper} {K : Act → World → Prop} {a : Act} {w w' : World} {v : Value} (hr : (execOp a.eval o).run P w = .ok (.value v) w') (h : K (a.put o.dst v) w') : Oper.wp P o a w K Q := by
  unfold Oper.wp; rw [hr]; exact h

/-- .. that yields nothing. -/
theorem wp_of_skip {o : Oper} {K : Act → World → Prop} {a : Act} {w w' : World} (hr : (execOp a.eval o).run P w = .ok .skip w') (h : K (a.put o.dst undef) w') : Oper.wp P o a w K Q := by
  unfold Oper.wp; rw [hr]; exact h

/-- A call of a Go function. -/
theorem wp_of_call {o : Oper} {K : Act → World → Prop} {a : Act} {w : World} (f : FuncId) {fn : Func} (hfn : P.funcs[f]? = some fn) (hfn1 : (fn.name == "runtime.NumGoroutine") = false) (hfn2 : fn.body.isNone = false) (xs : Array Operand) (ts : Array TypeId)
    (hop : o.op = Op.call { callee := Callee.value (Operand.func f), args := xs, argTypes := ts }) (vs : Array Value) (hvs : xs.map a.eval = vs) {R : Value → World → Prop} (h : Calls P f vs w fun e w' => ∃ v, e = .returned v ∧ R v w') (hK : ∀ v w', R v w' → K (a.put o.dst v) w') : Oper.wp P o a w K Q := by
  unfold Oper.wp
  subst hvs
  have hrun : (execOp a.eval o).run P w = .ok (.enter f (xs.map a.eval)) w := by
    have e1 : execOp a.eval o = callFunc f (#[] ++ xs.map a.eval ++ #[]) := by
      unfold execOp
      rw [hop]
      rfl
    rw [e1]
    have n1 : ¬ fn.name = "runtime.NumGoroutine" := by simpa using hfn1
    have n2 : ¬ fn.body = none := fun h => by rw [h] at hfn2; simp at hfn2
    simp [callFunc, program, Sem.run, Result.andThen, hfn, n1, n2, go_sem]
  rw [hrun, Oper.upon_enter]
  refine h.mono ?_
  rintro e w' ⟨v, rfl, hR⟩
  exact hK v w' hR

/-- An operation without a guard, told by what it does alone. -/
theorem wpOp_is {i : Nat} {d : Option Tmp} {op : Op} {ty : TypeId} {K : Act → World → Prop} {a : Act} {w : World} (hi : (ops[i]?).map (fun o => (o.dst, o.op, o.type, o.guard)) = some (d, op, ty, none))
    (h : ∀ pos after, Oper.wp P ⟨d, op, ty, pos, after, none⟩ a w K Q) : wpOp P ops Q i K a w := by
  cases ho : ops[i]? with
  | none => rw [ho] at hi; cases hi
  | some o =>
    rw [ho] at hi
    obtain ⟨o1, o2, o3, o4, o5, o6⟩ := o
    simp at hi
    obtain ⟨rfl, rfl, rfl, rfl⟩ := hi
    exact wpOp_of ho rfl (h _ _)

/-- .. that yields a value. -/
theorem wpOp_run {i : Nat} {d : Option Tmp} {op : Op} {ty : TypeId} {v : Value} {K : Act → World → Prop} {a : Act} {w w' : World} (hi : (ops[i]?).map (fun o => (o.dst, o.op, o.type, o.guard)) = some (d, op, ty, none))
    (hr : ∀ pos after, (execOp a.eval ⟨d, op, ty, pos, after, none⟩).run P w = .ok (.value v) w') (h : K (a.put d v) w') : wpOp P ops Q i K a w := by
  cases ho : ops[i]? with
  | none => rw [ho] at hi; cases hi
  | some o =>
    rw [ho] at hi
    obtain ⟨o1, o2, o3, o4, o5, o6⟩ := o
    simp at hi
    obtain ⟨rfl, rfl, rfl, rfl⟩ := hi
    exact wpOp_of ho rfl (wp_of_run (hr _ _) h)

theorem wpOp_skip {i : Nat} {d : Option Tmp} {op : Op} {ty : TypeId} {K : Act → World → Prop} {a : Act} {w w' : World} (hi : (ops[i]?).map (fun o => (o.dst, o.op, o.type, o.guard)) = some (d, op, ty, none))
    (hr : ∀ pos after, (execOp a.eval ⟨d, op, ty, pos, after, none⟩).run P w = .ok .skip w') (h : K (a.put d undef) w') : wpOp P ops Q i K a w := by
  cases ho : ops[i]? with
  | none => rw [ho] at hi; cases hi
  | some o =>
    rw [ho] at hi
    obtain ⟨o1, o2, o3, o4, o5, o6⟩ := o
    simp at hi
    obtain ⟨rfl, rfl, rfl, rfl⟩ := hi
    exact wpOp_of ho rfl (wp_of_skip (hr _ _) h)

theorem wp_region_N {id : Nat} {a : Act} {w : World} (hm : P.follows .mixedOrders = true)
    (h : wpAnyN P .any ops Q S need ops.size (Array.replicate ops.size false) a w.drew) : (Code.region id ops true).wp P Q a w :=
  wp_region_any hm (wpAny_of_N _ _ _ _ h)
end

end Go.Proofs.Ytaidjhlijadmiaa
