import Derived.Test.YtlmflighkkgikaaGreatP54

namespace Go.Proofs.YtlmflighkkgikaaGreat
open Go.ChangeShapes Go.WideShapes Go.ChangeAt Go.RowKit Go.Deep
theorem alls_any (r1 r2 : Raw) (hs1 : i64 r1.seed) (hs2 : i64 r2.seed) (a : Option Addr) (n cap : Nat) (op : Nat → OpD) (W0 : World) (hS : ScriptI W0 a n cap op) :
   Calls Tryz.prog 5 #[r1.agg, r2.agg, .slice a n cap] W0 fun e w' => e = .returned (.bool true) ∧ Below W0.heap.size W0 w' := by
 have hpl : ∀ W, Below W0.heap.size W0 W → Calls Tryz.prog 6 #[r1.agg, r2.agg, .slice a n cap, .int .i64 10] W fun e w' => e = .returned (.bool true) ∧ Below W0.heap.size W0 w' := fun W hb => by
   refine (plays_any 10 (by omega) r1 r2 hs1 hs2 a n cap op W (hS.below hb)).mono ?_
   rintro e w' ⟨he, hw⟩
   exact ⟨he, hb.trans (hw.mono hb.size)⟩
 have Hpl := hide hpl
 clear hpl
 unfold Raw.agg at *
 go_enter Tryz.func5, Tryz.ntmps5
 go_wp2_with (go_at_call 6; refine (Hpl.out _ (((Below.refl _ _).alloc (Nat.le_refl _) _).alloc (by simp) _)).mono ?_; rintro e w1 ⟨rfl, hb⟩)
 go_ret
 exact ⟨rfl, hb⟩
set_option maxRecDepth 100000 in
set_option maxHeartbeats 4000000 in
theorem all_lifted (os : Os) (started : os.Started) (H : Type) (enc : TypeId × Value → H) :
   ReturnsInHanded {} Tryz.checked os 5 .any (Rows.allSpec.pre6 enc Tryz.prog Tryz.f5 Rows.allRow.domain false) (Rows.allSpec.post enc Tryz.prog Tryz.f5 false true false false) := by
 refine returnsInHanded_of_change_sized (C := Tryz.checked) own' started (by kernel_rfl) Tryz.func5
   (ChangeSpec.witness6 (enc := enc) (C := Tryz.checked) false ⟨#[], #[.agg #[.int .i64 0, .int .i64 0, .int .i64 0, .int .i64 0, .int .i64 0, .int .i64 0, .int .i64 0], .agg #[.int .i64 0, .int .i64 0, .int .i64 0, .int .i64 0, .int .i64 0, .int .i64 0, .int .i64 0], .slice none 0 0], []⟩ 8 (by kernel_rfl) (by kernel_rfl) (by kernel_rfl) (by kernel_rfl)) ?_
 intro W base args ds gs before hval0 hW _ hreach0 _
 have hval : ∀ (j : Nat) t v, Tryz.f5.params[j]? = some t → args[j]? = some v → Value.okWide Tryz.prog W .any base t v := hval0
 have hW' := hW
 obtain ⟨p, q, hA0, hV, rfl, _, _⟩ := hW
 have hA : DataW.TrodAll enc Tryz.prog W 0 (fun _ => true) true Tryz.f5.params.toList args.toList ds p := hA0
 obtain ⟨rfl, rfl⟩ := trodVars_none hV
 have hreach : (DataW.weightsEach Tryz.prog (Tryz.f5.params.toList ++ Rows.allSpec.plain.varTypes Tryz.prog) (ds ++ [])).all (· ≤ reachBytes) = true := hreach0
 rw [Tryz.params5] at hA hval hreach
 obtain ⟨v0, vs0, d0, ds0, p0, q0, hargs, rfl, rfl, h0, t0⟩ := trodAll_cons hA
 obtain ⟨v1, vs1, d1, ds1, p1, q1, rfl, rfl, rfl, h1, t1⟩ := trodAll_cons t0
 obtain ⟨v2, vs2, d2, ds2, p2, q2, rfl, rfl, rfl, h2, t2⟩ := trodAll_cons t1
 obtain ⟨rfl, rfl, rfl⟩ := trodAll_nil t2
 obtain rfl : args = #[v0, v1, v2] := by cases args; simp_all
 clear hA0 hval0
 simp only [List.append_nil] at hW'
 have hlt : ∀ x ∈ p0 ++ (p1 ++ (p2 ++ [])), x.block < W.heap.size := fun x hx => by simpa using hW'.lt x (by simpa using hx)
 have hwt : ∀ k ∈ d2.weights Tryz.prog 24, k ≤ 140737488351232 := fun k hk => by
   have h' := List.all_eq_true.1 hreach k (DataW.weights_mem_each (j := 2) (t := 24) (d := d2) rfl rfl k hk)
   exact of_decide_eq_true h'
 obtain ⟨r1, rfl, hs1⟩ := open_cfg (hval 0 23 v0 rfl rfl) h0
 obtain ⟨r2, rfl, hs2⟩ := open_cfg (hval 1 23 v1 rfl rfl) h1
 obtain ⟨a, n, cap, op, rfl, hS⟩ := open_script (hval 2 24 v2 rfl rfl) h2 hwt
 refine (alls_any r1 r2 hs1 hs2 a n cap op W hS).mono fun e W' ⟨he, hb⟩ => ?_
 subst he
 have k0 := Below.trod laidOut' (by kernel_rfl) (of_decide_eq_true (by kernel_rfl)) h0 hb (fun x hx => hlt x (by simp [hx]))
 have k1 := Below.trod laidOut' (by kernel_rfl) (of_decide_eq_true (by kernel_rfl)) h1 hb (fun x hx => hlt x (by simp [hx]))
 have k2 := Below.trod laidOut' (by kernel_rfl) (of_decide_eq_true (by kernel_rfl)) h2 hb (fun x hx => hlt x (by simp [hx]))
 exact ⟨_, rfl, ⟨_, _, _, [], _, [], hW', trodAll_mk1 (shut_bool Tryz.underlying4 true), trodAll_cons_mk k0 (trodAll_cons_mk k1 (trodAll_cons_mk k2 trodAll_mk0)), rfl, hb.frame _, fun h => by cases h⟩⟩
theorem all_proved : Rows.AllSaid :=
 OpenClaim.holds_of_wide 5 Tryz.f5 rfl rfl rfl rfl rfl rfl rfl ⟨rfl, rfl, rfl, rfl, rfl⟩ rfl rfl rfl rfl rfl (by kernel_rfl) Tryz.func5 (by kernel_rfl)
   (of_decide_eq_true (by kernel_rfl)) (by unfold Func.isWrapper; first | (rw [if_pos (by decide +kernel)]; kernel_rfl) | (rw [if_neg (by decide +kernel)]; exact ⟨rfl, rfl⟩))
   (fun os started H enc _ => all_lifted os started H enc)
#print axioms all_proved
end Go.Proofs.YtlmflighkkgikaaGreat
