import Derived.Test.YtaidjhlijadmiaaP07
import Derived.Test.YtaidjhlijadmiaaP16

/-
  A pair of words times a power of i, as floats.
-/
namespace Go.Proofs.Ytaidjhlijadmiaa
open Ieee

/-- The powers of i. -/
def pwR : Nat → Nat
  | 0 => 4607182418800017408
  | 1 => 0
  | 2 => 13830554455654793216
  | _ => 9223372036854775808
def pwI : Nat → Nat
  | 0 => 0
  | 1 => 4607182418800017408
  | 2 => 0
  | _ => 13830554455654793216

theorem pw_next0 : cMulBits (pwR 0) (pwI 0) 0 4607182418800017408 = some (pwR 1, pwI 1) := by kernel_rfl
theorem pw_next1 : cMulBits (pwR 1) (pwI 1) 0 4607182418800017408 = some (pwR 2, pwI 2) := by kernel_rfl
theorem pw_next2 : cMulBits (pwR 2) (pwI 2) 0 4607182418800017408 = some (pwR 3, pwI 3) := by kernel_rfl
theorem pw_next (k : Nat) (h : k < 3) : cMulBits (pwR k) (pwI k) 0 4607182418800017408 = some (pwR (k + 1), pwI (k + 1)) := by
  have : k = 0 ∨ k = 1 ∨ k = 2 := by omega
  rcases this with rfl | rfl | rfl
  · exact pw_next0
  · exact pw_next1
  · exact pw_next2

theorem num_keep (a : Int) (s' : Bool) (h : a.natAbs ≠ 0 → s' = decide (a < 0)) : numOf s' a.natAbs = a := by
  by_cases h0 : a.natAbs = 0
  · have : a = 0 := by omega
    subst this; cases s' <;> rfl
  · rw [h h0]; unfold numOf; by_cases ha : a < 0
    · simp [ha]; omega
    · simp [ha]; omega

theorem num_turn (a : Int) (s' : Bool) (h : a.natAbs ≠ 0 → s' = !decide (a < 0)) : numOf s' a.natAbs = -a := by
  by_cases h0 : a.natAbs = 0
  · have : a = 0 := by omega
    subst this; cases s' <;> rfl
  · rw [h h0]; unfold numOf; by_cases ha : a < 0
    · simp [ha]; omega
    · simp [ha]; omega

/-- What a pair becomes. -/
def tX (r : Nat) (a b : Int) : Int := match r with | 0 => a | 1 => -b | 2 => -a | _ => b
def tY (r : Nat) (a b : Int) : Int := match r with | 0 => b | 1 => a | 2 => -b | _ => -a

theorem fb_mul (x y : Nat) : floatBits .mul .f64 x y = double.mul x y := rfl
theorem fb_add (x y : Nat) : floatBits .add .f64 x y = double.add x y := rfl
theorem fb_sub (x y : Nat) : floatBits .sub .f64 x y = double.sub x y := rfl

theorem turn_bits (r : Nat) (hr : r < 4) (a b : Int) (ha : -4095 ≤ a ∧ a ≤ 4095) (hb : -4095 ≤ b ∧ b ≤ 4095) :
    ∃ re im, cMulBits (floatOfInt .f64 a) (floatOfInt .f64 b) (pwR r) (pwI r) = some (re, im) ∧ floatToIntVal .f64 re .i64 = some (tX r a b) ∧ floatToIntVal .f64 im .i64 = some (tY r a b) := by
  have hma : a.natAbs ≤ 4095 := by omega
  have hmb : b.natAbs ≤ 4095 := by omega
  rw [fl_wd, fl_wd]
  have hr4 : r = 0 ∨ r = 1 ∨ r = 2 ∨ r = 3 := by omega
  unfold cMulBits
  simp only [fb_mul, fb_add, fb_sub]
  rcases hr4 with rfl | rfl | rfl | rfl
  · show ∃ re im, ((double.mul _ (w1 false)).bind fun ac => (double.mul _ (wz false)).bind fun bd => (double.sub ac bd).bind fun re => (double.mul _ (wz false)).bind fun ad => (double.mul _ (w1 false)).bind fun bc => (double.add ad bc).bind fun im => some (re, im)) = some (re, im) ∧ _ ∧ _
    obtain ⟨s1, e1, f1⟩ := sub_wd_wz (decide (a < 0) ^^ false) (decide (b < 0) ^^ false) a.natAbs hma
    obtain ⟨s2, e2, f2⟩ := add_wz_wd (decide (b < 0) ^^ false) (decide (a < 0) ^^ false) b.natAbs hmb
    refine ⟨_, _, by rw [mul_one_wd _ _ _ hma, mul_zero_wd _ _ _ hmb]; simp only [Option.bind_some]; rw [e1, mul_zero_wd _ _ _ hma, mul_one_wd _ _ _ hmb]; simp only [Option.bind_some]; rw [e2]; rfl, ?_, ?_⟩
    · rw [toInt_wd _ _ hma, num_keep a s1 (by simpa using f1)]; rfl
    · rw [toInt_wd _ _ hmb, num_keep b s2 (by simpa using f2)]; rfl
  · show ∃ re im, ((double.mul _ (wz false)).bind fun ac => (double.mul _ (w1 false)).bind fun bd => (double.sub ac bd).bind fun re => (double.mul _ (w1 false)).bind fun ad => (double.mul _ (wz false)).bind fun bc => (double.add ad bc).bind fun im => some (re, im)) = some (re, im) ∧ _ ∧ _
    obtain ⟨s1, e1, f1⟩ := sub_wz_wd (decide (b < 0) ^^ false) (decide (a < 0) ^^ false) b.natAbs hmb
    obtain ⟨s2, e2, f2⟩ := add_wd_wz (decide (a < 0) ^^ false) (decide (b < 0) ^^ false) a.natAbs hma
    refine ⟨_, _, by rw [mul_zero_wd _ _ _ hma, mul_one_wd _ _ _ hmb]; simp only [Option.bind_some]; rw [e1, mul_one_wd _ _ _ hma, mul_zero_wd _ _ _ hmb]; simp only [Option.bind_some]; rw [e2]; rfl, ?_, ?_⟩
    · rw [toInt_wd _ _ hmb, num_turn b s1 (by simpa using f1)]; rfl
    · rw [toInt_wd _ _ hma, num_keep a s2 (by simpa using f2)]; rfl
  · show ∃ re im, ((double.mul _ (w1 true)).bind fun ac => (double.mul _ (wz false)).bind fun bd => (double.sub ac bd).bind fun re => (double.mul _ (wz false)).bind fun ad => (double.mul _ (w1 true)).bind fun bc => (double.add ad bc).bind fun im => some (re, im)) = some (re, im) ∧ _ ∧ _
    obtain ⟨s1, e1, f1⟩ := sub_wd_wz (decide (a < 0) ^^ true) (decide (b < 0) ^^ false) a.natAbs hma
    obtain ⟨s2, e2, f2⟩ := add_wz_wd (decide (b < 0) ^^ true) (decide (a < 0) ^^ false) b.natAbs hmb
    refine ⟨_, _, by rw [mul_one_wd _ _ _ hma, mul_zero_wd _ _ _ hmb]; simp only [Option.bind_some]; rw [e1, mul_zero_wd _ _ _ hma, mul_one_wd _ _ _ hmb]; simp only [Option.bind_some]; rw [e2]; rfl, ?_, ?_⟩
    · rw [toInt_wd _ _ hma, num_turn a s1 (by simpa using f1)]; rfl
    · rw [toInt_wd _ _ hmb, num_turn b s2 (by simpa using f2)]; rfl
  · show ∃ re im, ((double.mul _ (wz true)).bind fun ac => (double.mul _ (w1 true)).bind fun bd => (double.sub ac bd).bind fun re => (double.mul _ (w1 true)).bind fun ad => (double.mul _ (wz true)).bind fun bc => (double.add ad bc).bind fun im => some (re, im)) = some (re, im) ∧ _ ∧ _
    obtain ⟨s1, e1, f1⟩ := sub_wz_wd (decide (b < 0) ^^ true) (decide (a < 0) ^^ true) b.natAbs hmb
    obtain ⟨s2, e2, f2⟩ := add_wd_wz (decide (a < 0) ^^ true) (decide (b < 0) ^^ true) a.natAbs hma
    refine ⟨_, _, by rw [mul_zero_wd _ _ _ hma, mul_one_wd _ _ _ hmb]; simp only [Option.bind_some]; rw [e1, mul_one_wd _ _ _ hma, mul_zero_wd _ _ _ hmb]; simp only [Option.bind_some]; rw [e2]; rfl, ?_, ?_⟩
    · rw [toInt_wd _ _ hmb, num_keep b s1 (by simpa using f1)]; rfl
    · rw [toInt_wd _ _ hma, num_turn a s2 (by simpa using f2)]; rfl

end Go.Proofs.Ytaidjhlijadmiaa

/-
  A region that draws its order, by what each of its operations leaves: no order is walked, each operation is met once.
-/
namespace Go.Proofs.Ytaidjhlijadmiaa

section
variable {P : Program} {ops : Array Oper} {Q : Exit → Act → World → Prop} {md : Region.Mode}

/-- What an operation has yielded. -/
def valOf (a : Act) (o : Oper) : Value := match o.dst with | some d => a.tmps.getD d undef | none => undef

/-- Nothing but the region's own slots has turned. -/
structure FrameI (ops : Array Oper) (a0 a : Act) : Prop where
  size : a.tmps.size = a0.tmps.size
  defers : a.defers = a0.defers
  same : ∀ d, (∀ (i : Nat) (o : Oper), ops[i]? = some o → o.dst ≠ some d) → a.tmps[d]? = a0.tmps[d]?

/-- Edges go back; no two operations write one slot; every slot is there. -/
def regionOk (ops : Array Oper) (n : Nat) : Bool :=
  (List.range ops.size).all fun i => match ops[i]? with
    | none => true
    | some o => o.after.all (fun e => decide (e.on < i)) && (match o.dst with | none => true | some d => decide (d < n) && (List.range ops.size).all fun j => (j == i) || (match ops[j]? with | none => true | some oj => !(oj.dst == some d)))

theorem regionOk_spec {n : Nat} (h : regionOk ops n = true) {i : Nat} {o : Oper} (ho : ops[i]? = some o) :
    (∀ e ∈ o.after, e.on < i) ∧ ∀ d, o.dst = some d → d < n ∧ ∀ (j : Nat) (oj : Oper), ops[j]? = some oj → j ≠ i → oj.dst ≠ some d := by
  unfold regionOk at h
  rw [List.all_eq_true] at h
  have h1 := h i (List.mem_range.2 (Array.getElem?_eq_some_iff.1 ho).1)
  rw [ho] at h1
  simp only [Bool.and_eq_true] at h1
  refine ⟨fun e he => ?_, fun d hd => ?_⟩
  · have := Array.all_eq_true'.1 h1.1 e he
    simpa using this
  · have h2 := h1.2
    rw [hd] at h2
    simp only [Bool.and_eq_true, decide_eq_true_eq, List.all_eq_true] at h2
    refine ⟨h2.1, fun j oj hj hne hdj => ?_⟩
    have h3 := h2.2 j (List.mem_range.2 (Array.getElem?_eq_some_iff.1 hj).1)
    rw [hj] at h3
    simp [hne, hdj] at h3

theorem put_size (a : Act) (d : Option Tmp) (v : Value) : (a.put d v).tmps.size = a.tmps.size ∧ (a.put d v).defers = a.defers := by
  cases d <;> simp [Act.put]

theorem put_get (a : Act) (d e : Tmp) (v : Value) : (a.put (some d) v).tmps[e]? = if d = e ∧ e < a.tmps.size then some v else a.tmps[e]? := by
  simp only [Act.put, Array.getElem?_setIfInBounds]
  by_cases h : d = e
  · subst h
    by_cases h2 : d < a.tmps.size
    · simp [h2]
    · simp [h2]
  · simp [h]

/-- The last operation waits for all others, or for what waits for them. -/
def lastOk (md : Region.Mode) (ops : Array Oper) (z : Nat) : Bool :=
  decide (z < ops.size) && (match ops[z]? with | none => false | some o => (List.range ops.size).all fun j => (j == z) || waitsOn md o j || (List.range ops.size).any fun k => waitsOn md o k && (match ops[k]? with | none => false | some ok => waitsOn md ok j))

theorem waitsOn_spec {o : Oper} {j : Nat} (h : waitsOn md o j = true) : ∃ e ∈ o.after, Region.binds md e = true ∧ e.on = j := by
  unfold waitsOn at h
  rw [Array.any_eq_true] at h
  obtain ⟨k, hk, h1⟩ := h
  simp only [Bool.and_eq_true, beq_iff_eq] at h1
  exact ⟨o.after[k], by simp, h1.1, h1.2⟩

theorem lastOk_spec {z : Nat} (h : lastOk md ops z = true) : z < ops.size ∧ ∀ o, ops[z]? = some o → ∀ j, j < ops.size → j ≠ z →
    (∃ e ∈ o.after, Region.binds md e = true ∧ e.on = j) ∨ ∃ e ∈ o.after, Region.binds md e = true ∧ ∃ ok, ops[e.on]? = some ok ∧ ∃ e' ∈ ok.after, Region.binds md e' = true ∧ e'.on = j := by
  unfold lastOk at h
  simp only [Bool.and_eq_true, decide_eq_true_eq] at h
  refine ⟨h.1, fun o ho j hj hne => ?_⟩
  have h2 := h.2
  rw [ho] at h2
  simp only [List.all_eq_true, List.mem_range] at h2
  have h3 := h2 j hj
  simp only [Bool.or_eq_true, beq_iff_eq, List.any_eq_true, Bool.and_eq_true, List.mem_range] at h3
  rcases h3 with (h3 | h3) | ⟨k, hk, h4, h5⟩
  · exact absurd h3 hne
  · exact .inl (waitsOn_spec h3)
  · right
    obtain ⟨e, he, hb, hon⟩ := waitsOn_spec h4
    cases ho2 : ops[k]? with
    | none => rw [ho2] at h5; cases h5
    | some ok =>
      rw [ho2] at h5
      exact ⟨e, he, hb, ok, by rw [hon]; exact ho2, waitsOn_spec h5⟩

variable {Spec : Nat → Value → World → Prop} {I : Bool → World → Prop} {a0 : Act} {z : Nat}

theorem wpAny_specs (hok : regionOk ops a0.tmps.size = true) (hlast : lastOk md ops z = true)
    (hstep : ∀ (i : Nat) (o : Oper), ops[i]? = some o → ∀ (a : Act) (w : World), FrameI ops a0 a → I false w → (∀ e ∈ o.after, Region.binds md e = true → ∀ oe, ops[e.on]? = some oe → Spec e.on (valOf a oe) w) →
      ∀ K : Act → World → Prop, (∀ v w', I (i == z) w' → (o.dst = none → v = undef) → Spec i v w' → (∀ j u, j ≠ i → Spec j u w → Spec j u w') → K (a.put o.dst v) w') → wpOp P ops Q i K a w)
    (hend : ∀ (a : Act) (w : World), FrameI ops a0 a → I true w → (∀ (i : Nat) (o : Oper), ops[i]? = some o → Spec i (valOf a o) w) → Q .normal a w) :
    ∀ (fuel : Nat) (listed : Array Bool) (a : Act) (w : World), listed.size = ops.size → listed.toList.count false ≤ fuel → FrameI ops a0 a → I (listed.getD z false) w → (listed.getD z false = true → ∀ i, i < ops.size → listed[i]? = some true) →
      (∀ (k : Nat) (ok : Oper), ops[k]? = some ok → listed[k]? = some true → ∀ e ∈ ok.after, Region.binds md e = true → listed[e.on]? = some true) →
      (∀ (i : Nat) (o : Oper), ops[i]? = some o → listed[i]? = some true → Spec i (valOf a o) w) → wpAny P md ops Q fuel listed a w := by
  have allOf : ∀ (listed : Array Bool), listed.size = ops.size → Region.ready md ops listed = [] → ∀ i, i < ops.size → listed[i]? = some true := by
    intro listed hsz hr i
    induction i using Nat.strongRecOn with
    | _ i ih =>
      intro hi
      have hli : listed[i]? = some listed[i] := Array.getElem?_eq_getElem (by omega)
      cases hb : listed[i] with
      | true => rw [hli, hb]
      | false =>
        exfalso
        have ho : ops[i]? = some ops[i] := Array.getElem?_eq_getElem hi
        have hm : i ∈ Region.ready md ops listed := by
          refine mem_ready.2 ⟨by simp [hli, hb], ops[i], ho, fun e he _ => ?_⟩
          have hlt := (regionOk_spec hok ho).1 e he
          have := ih e.on hlt (by omega)
          simp [this]
        rw [hr] at hm
        cases hm
  intro fuel
  induction fuel with
  | zero =>
    intro listed a w hsz hcnt hF hI hz hcl hS
    have hall : ∀ i, i < ops.size → listed[i]? = some true := by
      intro i hi
      have hli : listed[i]? = some listed[i] := Array.getElem?_eq_getElem (by omega)
      cases hb : listed[i] with
      | true => rw [hli, hb]
      | false =>
        exfalso
        have : false ∈ listed.toList := by rw [← hb]; simp
        have := List.count_pos_iff.2 this
        omega
    have hzt : listed.getD z false = true := by rw [Array.getD_eq_getD_getElem?, hall z (lastOk_spec hlast).1]; rfl
    rw [hzt] at hI
    refine ⟨?_, hend a w hF hI (fun i o ho => hS i o ho (hall i (Array.getElem?_eq_some_iff.1 ho).1))⟩
    cases hr : Region.ready md ops listed with
    | nil => rfl
    | cons j r =>
      have hj : j ∈ Region.ready md ops listed := by rw [hr]; simp
      obtain ⟨hun, o, ho, _⟩ := mem_ready.1 hj
      have := hall j (Array.getElem?_eq_some_iff.1 ho).1
      simp [this] at hun
  | succ fuel ih =>
    intro listed a w hsz hcnt hF hI hz hcl hS
    refine ⟨fun hr => hend a w hF (by rw [Array.getD_eq_getD_getElem?, allOf listed hsz hr z (lastOk_spec hlast).1] at hI; exact hI) (fun i o ho => hS i o ho (allOf listed hsz hr i (Array.getElem?_eq_some_iff.1 ho).1)), fun i hi => ?_⟩
    obtain ⟨hun, o, ho, hall⟩ := mem_ready.1 hi
    have hil := (Array.getElem?_eq_some_iff.1 ho).1
    have hli : listed[i]? = some false := by
      have : listed[i]? = some listed[i] := Array.getElem?_eq_getElem (by omega)
      cases hb : listed[i] with
      | true => rw [Array.getD_eq_getD_getElem?, this, hb] at hun; simp at hun
      | false => rw [this, hb]
    have hzf : listed.getD z false = false := by
      cases hb : listed.getD z false with
      | false => rfl
      | true => have := hz hb i hil; rw [hli] at this; cases this
    rw [hzf] at hI
    refine hstep i o ho a w hF hI (fun e he hb oe hoe => hS e.on oe hoe ?_) _ ?_
    · have h1 := hall e he hb
      have hlt := (regionOk_spec hok ho).1 e he
      have h2 : listed[e.on]? = some listed[e.on] := Array.getElem?_eq_getElem (by omega)
      rw [Array.getD_eq_getD_getElem?, h2] at h1
      rw [h2]
      simpa using h1
    · intro v w' hI' hv hSi hkeep
      have hzn : (listed.setIfInBounds i true).getD z false = (i == z) := by
        rw [Array.getD_eq_getD_getElem?]
        by_cases hiz : i = z
        · subst hiz; simp [hsz, hil]
        · rw [Array.getElem?_setIfInBounds_ne hiz, ← Array.getD_eq_getD_getElem?, hzf]; simp [hiz]
      refine ih _ _ w' (by simpa using hsz) ?_ ?_ (by rw [hzn]; exact hI') ?_ ?_ ?_
      · rw [Array.toList_setIfInBounds, List.count_set]
        have h3 : listed.toList[i]? = some false := by simpa using hli
        have h4 : i < listed.toList.length := by simp; omega
        have h5 : listed.toList[i] = false := by
          rw [List.getElem?_eq_getElem h4] at h3; injection h3
        have h6 : 0 < listed.toList.count false := List.count_pos_iff.2 (by rw [← h5]; simp)
        · simp [h5]
          simp at hcnt h6
          omega
        · simp; omega
      · refine ⟨by rw [(put_size _ _ _).1]; exact hF.size, by rw [(put_size _ _ _).2]; exact hF.defers, fun d hd => ?_⟩
        have := hd i o ho
        cases hdo : o.dst with
        | none => simp [Act.put]; exact hF.same d hd
        | some d' =>
          rw [put_get, if_neg (fun h => this (by rw [hdo, h.1]))]
          exact hF.same d hd
      · intro hzt j hj
        rw [hzn] at hzt
        have hiz : i = z := by simpa using hzt
        subst hiz
        by_cases hji : j = i
        · subst hji; simp [hsz, hil]
        · rw [Array.getElem?_setIfInBounds_ne (fun e => hji e.symm)]
          have lst : ∀ e ∈ o.after, Region.binds md e = true → listed[e.on]? = some true := fun e he hb => by
            have h1 := hall e he hb
            have hlt := (regionOk_spec hok ho).1 e he
            have h2 : listed[e.on]? = some listed[e.on] := Array.getElem?_eq_getElem (by omega)
            rw [Array.getD_eq_getD_getElem?, h2] at h1
            rw [h2]; simpa using h1
          rcases (lastOk_spec hlast).2 o ho j hj hji with ⟨e, he, hb, hon⟩ | ⟨e, he, hb, ok, hok2, e', he', hb', hon'⟩
          · rw [← hon]; exact lst e he hb
          · rw [← hon']; exact hcl e.on ok hok2 (lst e he hb) e' he' hb'
      · intro k ok hk hlk e he hb
        by_cases hki : k = i
        · subst hki
          rw [ho] at hk
          injection hk with hk
          subst hk
          have h1 := hall e he hb
          have hlt := (regionOk_spec hok ho).1 e he
          have h2 : listed[e.on]? = some listed[e.on] := Array.getElem?_eq_getElem (by omega)
          rw [Array.getElem?_setIfInBounds_ne (by omega)]
          rw [Array.getD_eq_getD_getElem?, h2] at h1
          rw [h2]; simpa using h1
        · rw [Array.getElem?_setIfInBounds_ne (fun e => hki e.symm)] at hlk
          have h1 := hcl k ok hk hlk e he hb
          by_cases hei : e.on = i
          · rw [hei] at h1; rw [hli] at h1; cases h1
          · rw [Array.getElem?_setIfInBounds_ne (fun e' => hei e'.symm)]; exact h1
      · intro j oj hoj hlj
        by_cases hji : j = i
        · subst hji
          rw [ho] at hoj
          injection hoj with hoj
          subst hoj
          cases hdo : o.dst with
          | none =>
            have e1 : valOf (a.put o.dst v) o = undef := by unfold valOf; rw [hdo]
            rw [hdo] at e1
            rw [e1, ← hv hdo]; exact hSi
          | some d' =>
            have hd' := ((regionOk_spec hok ho).2 d' hdo).1
            have e1 : valOf (a.put (some d') v) o = v := by
              unfold valOf
              rw [hdo]
              simp only []
              rw [Array.getD_eq_getD_getElem?, put_get, if_pos ⟨rfl, by rw [hF.size]; exact hd'⟩]
              rfl
            rw [e1]; exact hSi
        · have hlj' : listed[j]? = some true := by
            rw [Array.getElem?_setIfInBounds_ne (fun e => hji e.symm)] at hlj; exact hlj
          refine hkeep j _ hji ?_
          have e1 : valOf (a.put o.dst v) oj = valOf a oj := by
            unfold valOf
            cases hdj : oj.dst with
            | none => rfl
            | some dj =>
              simp only []
              rw [Array.getD_eq_getD_getElem?, Array.getD_eq_getD_getElem?]
              cases hdo : o.dst with
              | none => simp [Act.put]
              | some d' =>
                rw [put_get, if_neg (fun h => ((regionOk_spec hok hoj).2 dj hdj).2 i o ho (fun e => hji e.symm) (by rw [hdo, h.1]))]
          rw [e1]
          exact hS j oj hoj hlj'

/-- A slot that no operation of the region writes. -/
def noDst (ops : Array Oper) (d : Nat) : Bool := (List.range ops.size).all fun i => match ops[i]? with | none => true | some o => !(o.dst == some d)

theorem frame_eval {a : Act} (hF : FrameI ops a0 a) {d : Nat} (hn : noDst ops d = true) : a.eval (.tmp d) = a0.eval (.tmp d) := by
  have h := hF.same d (fun i o ho hd => by
    unfold noDst at hn
    rw [List.all_eq_true] at hn
    have := hn i (List.mem_range.2 (Array.getElem?_eq_some_iff.1 ho).1)
    rw [ho] at this
    simp [hd] at this)
  simp only [Act.eval]
  rw [Array.getD_eq_getD_getElem?, Array.getD_eq_getD_getElem?, h]

theorem dep_eval {o : Oper} {a : Act} {w : World} (hdep : ∀ e ∈ o.after, Region.binds md e = true → ∀ oe, ops[e.on]? = some oe → Spec e.on (valOf a oe) w) {j dj : Nat} (hw : waitsOn md o j = true) (hd : (ops[j]?).map (·.dst) = some (some dj)) : Spec j (a.eval (.tmp dj)) w := by
  unfold waitsOn at hw
  rw [Array.any_eq_true] at hw
  obtain ⟨k, hk, h1⟩ := hw
  simp only [Bool.and_eq_true, beq_iff_eq] at h1
  cases ho : ops[j]? with
  | none => rw [ho] at hd; cases hd
  | some oj =>
    rw [ho] at hd
    simp at hd
    have := hdep o.after[k] (by simp) h1.1 oj (by rw [h1.2]; exact ho)
    rw [h1.2] at this
    unfold valOf at this
    rw [hd] at this
    exact this

theorem dep_at {o : Oper} {a : Act} {w : World} {i : Nat} (ho : ops[i]? = some o) (hdep : ∀ e ∈ o.after, Region.binds md e = true → ∀ oe, ops[e.on]? = some oe → Spec e.on (valOf a oe) w) {j dj : Nat}
    (hw : (ops[i]?).map (fun o => waitsOn md o j) = some true) (hd : (ops[j]?).map (·.dst) = some (some dj)) : Spec j (a.eval (.tmp dj)) w := by
  rw [ho] at hw
  exact dep_eval hdep (by simpa using hw) hd

theorem dst_ne {o : Oper} {i d : Nat} (ho : ops[i]? = some o) (hd : (ops[i]?).map (·.dst) = some (some d)) {A : Prop} (h : o.dst = none) : A := by
  rw [ho] at hd
  simp [h] at hd

/-- A step that yields a value. -/
theorem spec_run {i : Nat} {d : Option Tmp} {op : Op} {ty : TypeId} {v : Value} {K : Act → World → Prop} {o : Oper} {a : Act} {w w' : World} (ho : ops[i]? = some o) (hi : (ops[i]?).map (fun o => (o.dst, o.op, o.type, o.guard)) = some (d, op, ty, none))
    (hr : ∀ pos after, (execOp a.eval ⟨d, op, ty, pos, after, none⟩).run P w = .ok (.value v) w') (h : K (a.put o.dst v) w') : wpOp P ops Q i K a w := by
  rw [ho] at hi
  obtain ⟨o1, o2, o3, o4, o5, o6⟩ := o
  simp at hi
  obtain ⟨rfl, rfl, rfl, rfl⟩ := hi
  exact wpOp_of ho rfl (wp_of_run (hr _ _) h)

/-- .. that yields nothing. -/
theorem spec_skip {i : Nat} {d : Option Tmp} {op : Op} {ty : TypeId} {K : Act → World → Prop} {o : Oper} {a : Act} {w w' : World} (ho : ops[i]? = some o) (hi : (ops[i]?).map (fun o => (o.dst, o.op, o.type, o.guard)) = some (d, op, ty, none))
    (hr : ∀ pos after, (execOp a.eval ⟨d, op, ty, pos, after, none⟩).run P w = .ok .skip w') (h : K (a.put o.dst undef) w') : wpOp P ops Q i K a w := by
  rw [ho] at hi
  obtain ⟨o1, o2, o3, o4, o5, o6⟩ := o
  simp at hi
  obtain ⟨rfl, rfl, rfl, rfl⟩ := hi
  exact wpOp_of ho rfl (wp_of_skip (hr _ _) h)

/-- The region, whole. -/
theorem wp_region_specs {id : Nat} {w : World} (hm : P.follows .mixedOrders = true) (hok : regionOk ops a0.tmps.size = true) (hlast : lastOk .any ops z = true)
    (hstep : ∀ (i : Nat) (o : Oper), ops[i]? = some o → ∀ (a : Act) (w : World), FrameI ops a0 a → I false w → (∀ e ∈ o.after, Region.binds .any e = true → ∀ oe, ops[e.on]? = some oe → Spec e.on (valOf a oe) w) →
      ∀ K : Act → World → Prop, (∀ v w', I (i == z) w' → (o.dst = none → v = undef) → Spec i v w' → (∀ j u, j ≠ i → Spec j u w → Spec j u w') → K (a.put o.dst v) w') → wpOp P ops Q i K a w)
    (hend : ∀ (a : Act) (w : World), FrameI ops a0 a → I true w → (∀ (i : Nat) (o : Oper), ops[i]? = some o → Spec i (valOf a o) w) → Q .normal a w) (hI : I false w.drew) :
    (Code.region id ops true).wp P Q a0 w := by
  have hz := (lastOk_spec hlast).1
  have hz0 : (Array.replicate ops.size false).getD z false = false := by simp [Array.getD_eq_getD_getElem?, hz]
  exact wp_region_any hm (wpAny_specs hok hlast hstep hend ops.size _ a0 _ (by simp) (by simp) ⟨rfl, rfl, fun _ _ => rfl⟩ (by rw [hz0]; exact hI) (fun h => by rw [hz0] at h; cases h) (fun k ok hk hl => by
    have := (Array.getElem?_eq_some_iff.1 hk).1
    simp [this] at hl) (fun i o ho hl => by
    have := (Array.getElem?_eq_some_iff.1 ho).1
    simp [this] at hl))
end

end Go.Proofs.Ytaidjhlijadmiaa
