import Derived.Deep.RegionHeld3
import Derived.Deep.DrawnRows
import Derived.Deep.AppendLies
import Derived.Test.YtlmflighkkgikaaP01
import Derived.Test.YtlmflighkkgikaaP02

namespace Go.Proofs.Ytlmflighkkgikaa
open Go.RowKit
def mixStep (u d c : Int) : Int := IntKind.u64.wrap (bits .xor .u64 u (u / d) * c)
def mixI (u : Int) : Int :=
 (bits .xor .u64 (mixStep (mixStep u 1073741824 13787848793156543929) 134217728 10723151780598845931) (mixStep (mixStep u 1073741824 13787848793156543929) 134217728 10723151780598845931 / 2147483648)).tmod 17 - 8
def weightI (s : Int) (n : Nat) : Int := mixI ((s + 11400714819323198485 * (n + 1)) % 18446744073709551616)
theorem u64_wrap (x : Int) : IntKind.u64.wrap x = x % 18446744073709551616 := by rw [IntKind.wrap_u64]
theorem tmod17 (x : Int) : -16 ≤ x.tmod 17 ∧ x.tmod 17 ≤ 16 := by
 have h1 := Int.tmod_lt_of_pos x (show (0 : Int) < 17 by omega)
 have h2 := Int.lt_tmod_of_pos x (show (0 : Int) < 17 by omega)
 omega
theorem weight_wraps (x : Int) : wrap64 (wrap64 (x.tmod 17) - 8) = x.tmod 17 - 8 := by
 have h := tmod17 x
 rw [IntWalk.wrap64_in (x.tmod 17) ⟨by omega, by omega⟩, IntWalk.wrap64_in _ ⟨by omega, by omega⟩]
theorem weight_state (s : Int) (n : Nat) :
   IntKind.u64.wrap (s + IntKind.u64.wrap (11400714819323198485 * ((n : Int) + 1))) = (s + 11400714819323198485 * (n + 1)) % 18446744073709551616 := by
 simp only [u64_wrap]; omega
set_option maxRecDepth 100000 in
set_option maxHeartbeats 400000 in
theorem weight_any (s : Int) (n : Nat) (w : World) (hs : 0 ≤ s ∧ s < 18446744073709551616) (hn : n ≤ 100000) :
   Calls Try.prog 80 #[.int .u64 s, .int .u64 n] w fun e w' => e = .returned (.int .i64 (weightI s n)) ∧ w' = w := by
 have HS := hide (weight_state s n)
 obtain ⟨a1, a2⟩ := hs
 go_enter Try.func80, Try.ntmps80
 go_wp2
 go_ret
 refine ⟨ret_int ?_, rfl⟩
 rw [weight_wraps]
 unfold weightI mixI mixStep
 rw [← HS.out]
theorem mixI_bd (u : Int) : -8 ≤ mixI u ∧ mixI u ≤ 8 := by
 unfold mixI
 generalize mixStep (mixStep u 1073741824 13787848793156543929) 134217728 10723151780598845931 = x
 have h0 : 0 ≤ bits .xor .u64 x (x / 2147483648) := (bits_within .xor .u64 _ _).1
 have h1 := Int.tmod_lt_of_pos (bits .xor .u64 x (x / 2147483648)) (show (0 : Int) < 17 by omega)
 have h2 := Int.tmod_nonneg 17 h0
 omega
theorem weightI_bd (s : Int) (n : Nat) : -8 ≤ weightI s n ∧ weightI s n ≤ 8 := mixI_bd _
end Go.Proofs.Ytlmflighkkgikaa
namespace Go.Proofs.Ytlmflighkkgikaa
open Ieee
def pwR : Nat → Nat
 | 0 => 4607182418800017408
 | 1 => 0
 | 2 => 13830554455654793216
 | _ => 9223372036854775808
def pwI : Nat → Nat
 | 0 => 0
 | 1 => 4607182418800017408
 | 2 => 0
 | _ => 13830554455654793216
theorem pw_next0 : cMulBits (pwR 0) (pwI 0) 0 4607182418800017408 = some (pwR 1, pwI 1) := by kernel_rfl
theorem pw_next1 : cMulBits (pwR 1) (pwI 1) 0 4607182418800017408 = some (pwR 2, pwI 2) := by kernel_rfl
theorem pw_next2 : cMulBits (pwR 2) (pwI 2) 0 4607182418800017408 = some (pwR 3, pwI 3) := by kernel_rfl
theorem pw_next (k : Nat) (h : k < 3) : cMulBits (pwR k) (pwI k) 0 4607182418800017408 = some (pwR (k + 1), pwI (k + 1)) := by
 have : k = 0 ∨ k = 1 ∨ k = 2 := by omega
 rcases this with rfl | rfl | rfl
 · exact pw_next0
 · exact pw_next1
 · exact pw_next2
theorem num_keep (a : Int) (s' : Bool) (h : a.natAbs ≠ 0 → s' = decide (a < 0)) : numOf s' a.natAbs = a := by
 by_cases h0 : a.natAbs = 0
 · have : a = 0 := by omega
   subst this; cases s' <;> rfl
 · rw [h h0]; unfold numOf; by_cases ha : a < 0
   · simp [ha]; omega
   · simp [ha]; omega
theorem num_turn (a : Int) (s' : Bool) (h : a.natAbs ≠ 0 → s' = !decide (a < 0)) : numOf s' a.natAbs = -a := by
 by_cases h0 : a.natAbs = 0
 · have : a = 0 := by omega
   subst this; cases s' <;> rfl
 · rw [h h0]; unfold numOf; by_cases ha : a < 0
   · simp [ha]; omega
   · simp [ha]; omega
def tX (r : Nat) (a b : Int) : Int := match r with | 0 => a | 1 => -b | 2 => -a | _ => b
def tY (r : Nat) (a b : Int) : Int := match r with | 0 => b | 1 => a | 2 => -b | _ => -a
theorem fb_mul (x y : Nat) : floatBits .mul .f64 x y = double.mul x y := rfl
theorem fb_add (x y : Nat) : floatBits .add .f64 x y = double.add x y := rfl
theorem fb_sub (x y : Nat) : floatBits .sub .f64 x y = double.sub x y := rfl
theorem turn_bits (r : Nat) (hr : r < 4) (a b : Int) (ha : -4095 ≤ a ∧ a ≤ 4095) (hb : -4095 ≤ b ∧ b ≤ 4095) :
   ∃ re im, cMulBits (floatOfInt .f64 a) (floatOfInt .f64 b) (pwR r) (pwI r) = some (re, im) ∧ floatToIntVal .f64 re .i64 = some (tX r a b) ∧ floatToIntVal .f64 im .i64 = some (tY r a b) := by
 have hma : a.natAbs ≤ 4095 := by omega
 have hmb : b.natAbs ≤ 4095 := by omega
 rw [fl_wd, fl_wd]
 have hr4 : r = 0 ∨ r = 1 ∨ r = 2 ∨ r = 3 := by omega
 unfold cMulBits
 simp only [fb_mul, fb_add, fb_sub]
 rcases hr4 with rfl | rfl | rfl | rfl
 · show ∃ re im, ((double.mul _ (w1 false)).bind fun ac => (double.mul _ (wz false)).bind fun bd => (double.sub ac bd).bind fun re => (double.mul _ (wz false)).bind fun ad => (double.mul _ (w1 false)).bind fun bc => (double.add ad bc).bind fun im => some (re, im)) = some (re, im) ∧ _ ∧ _
   obtain ⟨s1, e1, f1⟩ := sub_wd_wz (decide (a < 0) ^^ false) (decide (b < 0) ^^ false) a.natAbs hma
   obtain ⟨s2, e2, f2⟩ := add_wz_wd (decide (b < 0) ^^ false) (decide (a < 0) ^^ false) b.natAbs hmb
   refine ⟨_, _, by rw [mul_one_wd _ _ _ hma, mul_zero_wd _ _ _ hmb]; simp only [Option.bind_some]; rw [e1, mul_zero_wd _ _ _ hma, mul_one_wd _ _ _ hmb]; simp only [Option.bind_some]; rw [e2]; rfl, ?_, ?_⟩
   · rw [toInt_wd _ _ hma, num_keep a s1 (by simpa using f1)]; rfl
   · rw [toInt_wd _ _ hmb, num_keep b s2 (by simpa using f2)]; rfl
 · show ∃ re im, ((double.mul _ (wz false)).bind fun ac => (double.mul _ (w1 false)).bind fun bd => (double.sub ac bd).bind fun re => (double.mul _ (w1 false)).bind fun ad => (double.mul _ (wz false)).bind fun bc => (double.add ad bc).bind fun im => some (re, im)) = some (re, im) ∧ _ ∧ _
   obtain ⟨s1, e1, f1⟩ := sub_wz_wd (decide (b < 0) ^^ false) (decide (a < 0) ^^ false) b.natAbs hmb
   obtain ⟨s2, e2, f2⟩ := add_wd_wz (decide (a < 0) ^^ false) (decide (b < 0) ^^ false) a.natAbs hma
   refine ⟨_, _, by rw [mul_zero_wd _ _ _ hma, mul_one_wd _ _ _ hmb]; simp only [Option.bind_some]; rw [e1, mul_one_wd _ _ _ hma, mul_zero_wd _ _ _ hmb]; simp only [Option.bind_some]; rw [e2]; rfl, ?_, ?_⟩
   · rw [toInt_wd _ _ hmb, num_turn b s1 (by simpa using f1)]; rfl
   · rw [toInt_wd _ _ hma, num_keep a s2 (by simpa using f2)]; rfl
 · show ∃ re im, ((double.mul _ (w1 true)).bind fun ac => (double.mul _ (wz false)).bind fun bd => (double.sub ac bd).bind fun re => (double.mul _ (wz false)).bind fun ad => (double.mul _ (w1 true)).bind fun bc => (double.add ad bc).bind fun im => some (re, im)) = some (re, im) ∧ _ ∧ _
   obtain ⟨s1, e1, f1⟩ := sub_wd_wz (decide (a < 0) ^^ true) (decide (b < 0) ^^ false) a.natAbs hma
   obtain ⟨s2, e2, f2⟩ := add_wz_wd (decide (b < 0) ^^ true) (decide (a < 0) ^^ false) b.natAbs hmb
   refine ⟨_, _, by rw [mul_one_wd _ _ _ hma, mul_zero_wd _ _ _ hmb]; simp only [Option.bind_some]; rw [e1, mul_zero_wd _ _ _ hma, mul_one_wd _ _ _ hmb]; simp only [Option.bind_some]; rw [e2]; rfl, ?_, ?_⟩
   · rw [toInt_wd _ _ hma, num_turn a s1 (by simpa using f1)]; rfl
   · rw [toInt_wd _ _ hmb, num_turn b s2 (by simpa using f2)]; rfl
 · show ∃ re im, ((double.mul _ (wz true)).bind fun ac => (double.mul _ (w1 true)).bind fun bd => (double.sub ac bd).bind fun re => (double.mul _ (w1 true)).bind fun ad => (double.mul _ (wz true)).bind fun bc => (double.add ad bc).bind fun im => some (re, im)) = some (re, im) ∧ _ ∧ _
   obtain ⟨s1, e1, f1⟩ := sub_wz_wd (decide (b < 0) ^^ true) (decide (a < 0) ^^ true) b.natAbs hmb
   obtain ⟨s2, e2, f2⟩ := add_wd_wz (decide (a < 0) ^^ true) (decide (b < 0) ^^ true) a.natAbs hma
   refine ⟨_, _, by rw [mul_zero_wd _ _ _ hma, mul_one_wd _ _ _ hmb]; simp only [Option.bind_some]; rw [e1, mul_one_wd _ _ _ hma, mul_zero_wd _ _ _ hmb]; simp only [Option.bind_some]; rw [e2]; rfl, ?_, ?_⟩
   · rw [toInt_wd _ _ hmb, num_keep b s1 (by simpa using f1)]; rfl
   · rw [toInt_wd _ _ hma, num_turn a s2 (by simpa using f2)]; rfl
end Go.Proofs.Ytlmflighkkgikaa
namespace Go.Proofs.Ytlmflighkkgikaa
section
variable {P : Program} {ops : Array Oper} {Q : Exit → Act → World → Prop} {md : Region.Mode} {Spec : Nat → Value → World → Prop} {J : World → Prop} {a0 : Act}
theorem wpAny_specs0 (hok : regionOk ops a0.tmps.size = true)
   (hstep : ∀ (i : Nat) (o : Oper), ops[i]? = some o → ∀ (a : Act) (w : World), FrameI ops a0 a → J w → (∀ e ∈ o.after, Region.binds md e = true → ∀ oe, ops[e.on]? = some oe → Spec e.on (valOf a oe) w) →
     ∀ K : Act → World → Prop, (∀ v w', J w' → (o.dst = none → v = undef) → Spec i v w' → (∀ j u, j ≠ i → Spec j u w → Spec j u w') → K (a.put o.dst v) w') → wpOp P ops Q i K a w)
   (hend : ∀ (a : Act) (w : World), FrameI ops a0 a → J w → (∀ (i : Nat) (o : Oper), ops[i]? = some o → Spec i (valOf a o) w) → Q .normal a w) :
   ∀ (fuel : Nat) (listed : Array Bool) (a : Act) (w : World), listed.size = ops.size → listed.toList.count false ≤ fuel → FrameI ops a0 a → J w →
     (∀ (i : Nat) (o : Oper), ops[i]? = some o → listed[i]? = some true → Spec i (valOf a o) w) → wpAny P md ops Q fuel listed a w := by
 have allOf : ∀ (listed : Array Bool), listed.size = ops.size → Region.ready md ops listed = [] → ∀ i, i < ops.size → listed[i]? = some true := by
   intro listed hsz hr i
   induction i using Nat.strongRecOn with
   | _ i ih =>
     intro hi
     have hli : listed[i]? = some listed[i] := Array.getElem?_eq_getElem (by omega)
     cases hb : listed[i] with
     | true => rw [hli, hb]
     | false =>
       exfalso
       have ho : ops[i]? = some ops[i] := Array.getElem?_eq_getElem hi
       have hm : i ∈ Region.ready md ops listed := by
         refine mem_ready.2 ⟨by simp [hli, hb], ops[i], ho, fun e he _ => ?_⟩
         have hlt := (regionOk_spec hok ho).1 e he
         have := ih e.on hlt (by omega)
         simp [this]
       rw [hr] at hm
       cases hm
 intro fuel
 induction fuel with
 | zero =>
   intro listed a w hsz hcnt hF hI hS
   have hall : ∀ i, i < ops.size → listed[i]? = some true := by
     intro i hi
     have hli : listed[i]? = some listed[i] := Array.getElem?_eq_getElem (by omega)
     cases hb : listed[i] with
     | true => rw [hli, hb]
     | false =>
       exfalso
       have : false ∈ listed.toList := by rw [← hb]; simp
       have := List.count_pos_iff.2 this
       omega
   refine ⟨?_, hend a w hF hI (fun i o ho => hS i o ho (hall i (Array.getElem?_eq_some_iff.1 ho).1))⟩
   cases hr : Region.ready md ops listed with
   | nil => rfl
   | cons j r =>
     have hj : j ∈ Region.ready md ops listed := by rw [hr]; simp
     obtain ⟨hun, o, ho, _⟩ := mem_ready.1 hj
     have := hall j (Array.getElem?_eq_some_iff.1 ho).1
     simp [this] at hun
 | succ fuel ih =>
   intro listed a w hsz hcnt hF hI hS
   refine ⟨fun hr => hend a w hF hI (fun i o ho => hS i o ho (allOf listed hsz hr i (Array.getElem?_eq_some_iff.1 ho).1)), fun i hi => ?_⟩
   obtain ⟨hun, o, ho, hall⟩ := mem_ready.1 hi
   have hil := (Array.getElem?_eq_some_iff.1 ho).1
   have hli : listed[i]? = some false := by
     have : listed[i]? = some listed[i] := Array.getElem?_eq_getElem (by omega)
     cases hb : listed[i] with
     | true => rw [Array.getD_eq_getD_getElem?, this, hb] at hun; simp at hun
     | false => rw [this, hb]
   refine hstep i o ho a w hF hI (fun e he hb oe hoe => hS e.on oe hoe ?_) _ ?_
   · have h1 := hall e he hb
     have hlt := (regionOk_spec hok ho).1 e he
     have h2 : listed[e.on]? = some listed[e.on] := Array.getElem?_eq_getElem (by omega)
     rw [Array.getD_eq_getD_getElem?, h2] at h1
     rw [h2]
     simpa using h1
   · intro v w' hI' hv hSi hkeep
     refine ih _ _ w' (by simpa using hsz) ?_ ?_ hI' ?_
     · rw [Array.toList_setIfInBounds, List.count_set]
       have h3 : listed.toList[i]? = some false := by simpa using hli
       have h4 : i < listed.toList.length := by simp; omega
       have h5 : listed.toList[i] = false := by
         rw [List.getElem?_eq_getElem h4] at h3; injection h3
       have h6 : 0 < listed.toList.count false := List.count_pos_iff.2 (by rw [← h5]; simp)
       · simp [h5]
         simp at hcnt h6
         omega
       · simp; omega
     · refine ⟨by rw [(put_size _ _ _).1]; exact hF.size, by rw [(put_size _ _ _).2]; exact hF.defers, fun d hd => ?_⟩
       have := hd i o ho
       cases hdo : o.dst with
       | none => simp [Act.put]; exact hF.same d hd
       | some d' =>
         rw [put_get, if_neg (fun h => this (by rw [hdo, h.1]))]
         exact hF.same d hd
     · intro j oj hoj hlj
       by_cases hji : j = i
       · subst hji
         rw [ho] at hoj
         injection hoj with hoj
         subst hoj
         cases hdo : o.dst with
         | none =>
           have e1 : valOf (a.put o.dst v) o = undef := by unfold valOf; rw [hdo]
           rw [hdo] at e1
           rw [e1, ← hv hdo]; exact hSi
         | some d' =>
           have hd' := ((regionOk_spec hok ho).2 d' hdo).1
           have e1 : valOf (a.put (some d') v) o = v := by
             unfold valOf
             rw [hdo]
             simp only []
             rw [Array.getD_eq_getD_getElem?, put_get, if_pos ⟨rfl, by rw [hF.size]; exact hd'⟩]
             rfl
           rw [e1]; exact hSi
       · have hlj' : listed[j]? = some true := by
           rw [Array.getElem?_setIfInBounds_ne (fun e => hji e.symm)] at hlj; exact hlj
         refine hkeep j _ hji ?_
         have e1 : valOf (a.put o.dst v) oj = valOf a oj := by
           unfold valOf
           cases hdj : oj.dst with
           | none => rfl
           | some dj =>
             simp only []
             rw [Array.getD_eq_getD_getElem?, Array.getD_eq_getD_getElem?]
             cases hdo : o.dst with
             | none => simp [Act.put]
             | some d' =>
               rw [put_get, if_neg (fun h => ((regionOk_spec hok hoj).2 dj hdj).2 i o ho (fun e => hji e.symm) (by rw [hdo, h.1]))]
         rw [e1]
         exact hS j oj hoj hlj'
theorem spec_call {i : Nat} {d : Option Tmp} {ty : TypeId} {K : Act → World → Prop} {o : Oper} {a : Act} {w : World} (f : FuncId) {fn : Func} (hfn : P.funcs[f]? = some fn) (hfn1 : (fn.name == "runtime.NumGoroutine") = false) (hfn2 : fn.body.isNone = false) (xs : Array Operand) (ts : Array TypeId)
   (ho : ops[i]? = some o) (hi : (ops[i]?).map (fun o => (o.dst, o.op, o.type, o.guard)) = some (d, Op.call { callee := Callee.value (Operand.func f), args := xs, argTypes := ts }, ty, none)) (vs : Array Value) (hvs : xs.map a.eval = vs) {R : Value → World → Prop}
   (h : Calls P f vs w fun e w' => ∃ v, e = .returned v ∧ R v w') (hK : ∀ v w', R v w' → K (a.put o.dst v) w') : wpOp P ops Q i K a w := by
 rw [ho] at hi
 simp at hi
 exact wpOp_of ho hi.2.2.2 (wp_of_call f hfn hfn1 hfn2 xs ts hi.2.1 vs hvs h hK)
theorem wp_region_specs0 {id : Nat} {w : World} (hm : P.follows .mixedOrders = true) (hok : regionOk ops a0.tmps.size = true)
   (hstep : ∀ (i : Nat) (o : Oper), ops[i]? = some o → ∀ (a : Act) (w : World), FrameI ops a0 a → J w → (∀ e ∈ o.after, Region.binds .any e = true → ∀ oe, ops[e.on]? = some oe → Spec e.on (valOf a oe) w) →
     ∀ K : Act → World → Prop, (∀ v w', J w' → (o.dst = none → v = undef) → Spec i v w' → (∀ j u, j ≠ i → Spec j u w → Spec j u w') → K (a.put o.dst v) w') → wpOp P ops Q i K a w)
   (hend : ∀ (a : Act) (w : World), FrameI ops a0 a → J w → (∀ (i : Nat) (o : Oper), ops[i]? = some o → Spec i (valOf a o) w) → Q .normal a w) (hI : J w.drew) :
   (Code.region id ops true).wp P Q a0 w := by
 exact wp_region_any hm (wpAny_specs0 hok hstep hend ops.size _ a0 _ (by simp) (by simp) ⟨rfl, rfl, fun _ _ => rfl⟩ hI (fun i o ho hl => by
   have := (Array.getElem?_eq_some_iff.1 ho).1
   simp [this] at hl))
end
end Go.Proofs.Ytlmflighkkgikaa
namespace Go.Proofs.Ytlmflighkkgikaa
open Go.RowKit
def normOf (n : Nat) (v : Nat → Int) (i : Nat) : Int := cutI ((v i * 256).tdiv (rootI ((sumTo (fun j => v j * v j) n).tdiv n + 1)))
theorem sq_sum (n j : Nat) (v : Nat → Int) (bv : ∀ j, -4095 ≤ v j ∧ v j ≤ 4095) (hj : j ≤ n) (hn : n ≤ 100) : 0 ≤ sumTo (fun j => v j * v j) j ∧ sumTo (fun j => v j * v j) j ≤ 1676902500 := by
 have h1 := sumTo_bd (f := fun j => v j * v j) (n := j) (b := 4095 * 4095) (fun i _ => mul_bd (bv _) (bv _))
 have h2 : 0 ≤ sumTo (fun j => v j * v j) j := sumTo_nonneg (fun i _ => by by_cases h : 0 ≤ v i; exact Int.mul_nonneg h h; exact Int.mul_nonneg_of_nonpos_of_nonpos (by omega) (by omega))
 omega
end Go.Proofs.Ytlmflighkkgikaa
namespace Go.Proofs.Ytlmflighkkgikaa
open Go.RowKit
attribute [local go_sem ↓] Go.wp_at_zero Go.wp_at_succ
def plusOf (a b : Nat → Int) (i : Nat) : Int := cutI (a i + b i)
end Go.Proofs.Ytlmflighkkgikaa
