import Derived.Deep.RegionLaw
import Derived.Test.YtlmflighkkgikaaGreatP01
import Derived.Test.YtlmflighkkgikaaGreatP07
import Derived.Test.YtlmflighkkgikaaGreatP25
import Derived.Test.YtlmflighkkgikaaGreatP30

namespace Go.Proofs.YtlmflighkkgikaaGreat
open Go.RowKit
attribute [local go_sem ↓] Go.wp_at_zero Go.wp_at_succ
theorem step_append_run {P : Program} {ops : Array Oper} {o : Oper} {a : Act} {w : World} {K : Act → World → Prop} {Q : Exit → Act → World → Prop} {E : Prop}
   (hg : o.guard = none) (s x : Operand) (t : TypeId) (hop : o.op = Op.call { callee := Callee.builtin Builtin.append, args := #[s, x], argTypes := #[t, t] }) (sv xv : Value) (hs : a.eval s = sv) (hx : a.eval x = xv)
   {R : Value → World → Prop} (hrun : ∀ ty, ∃ v w', (Builtin.append_ #[t, t] ty #[sv, xv]).run P w = .ok v w' ∧ R v w') (hK : ∀ v w', R v w' → K (a.put o.dst v) w') :
   if Region.wanted o (yielded ops a.tmps) = true then Oper.wp P o a w K Q else E := by
 have hw : Region.wanted o (yielded ops a.tmps) = true := by simp [Region.wanted, hg]
 rw [if_pos hw]
 obtain ⟨v, w', hr, hR⟩ := hrun o.type
 unfold Oper.wp
 subst hs hx
 simp [execOp, hop, resolve, invoke, builtin, hr, Result.andThen]
 exact hK _ _ hR
def atB (v : Value) (k : Nat) : Prop := ∃ a n cp, v = .slice (some a) n cp ∧ k = a.block
structure IdleTo (ok : Nat → Prop) (w : World) (v : Value) (il : List (List Nat)) (T : List Nat) (v' : Value) (w' : World) : Prop where
 idle : IdleI ok w' v' (il ++ [T])
 only : Only (atB v) w w'
 at' : ∀ k, atB v' k → atB v k ∨ w.heap.size ≤ k
 keep : ∀ e : TypeId, e ≠ 36 → KeepT e w w'
theorem idle_append {P : Program} {ok : Nat → Prop} {w : World} {v x : Value} {il : List (List Nat)} {T : List Nat} (t ty : TypeId) (i : TypeInfo) (ht : P.underlying t = some (.slice 36)) (hi : P.info? 36 = some i) (hz : i.zero = some (.slice none 0 0)) (hsize : i.size = 1) (hby : i.bytes = 24)
   (h : IdleI ok w v il) (hx : TokT w x T) (hox : okV ok x) (hx1 : x.oneCell' = true) (ad : Addr) (c : Nat) (hnew : w.cell? ad = some x) (hspot : ad.spot = none) (hl : il.length ≤ 1000) :
   ∃ v' w', (Builtin.append_ #[t, t] ty #[v, .slice (some ad) 1 c]).run P w = .ok v' w' ∧ IdleTo ok w v il T v' w' := by
 have hnews : ∀ (j : Nat) (u : Value), [x][j]? = some u → w.cell? (ad.add j) = some u := fun j u hj => by
   match j, hj with
   | 0, hj => simp at hj; subst hj; obtain ⟨ab, ao, asp⟩ := ad; simp only at hspot; subst hspot; simpa [Addr.add] using hnew
 have h1 : ∀ u ∈ [x], u.oneCell' = true := by intro u hu; simp at hu; subst hu; exact hx1
 have last : ∀ j, j = il.length → (il ++ [T]).getD j [] = T := fun j hj => by rw [List.getD_eq_getElem?_getD, List.getElem?_append_right (by omega), hj]; simp
 have left : ∀ j, j < il.length → (il ++ [T]).getD j [] = il.getD j [] := fun j hj => by rw [List.getD_eq_getElem?_getD, List.getElem?_append_left hj, ← List.getD_eq_getElem?_getD]
 have fresh : ∀ (v' : Value) (w' : World) (olds : List Value), w'.ownsRow w.heap.size 36 1 v' (il.length + 1) (olds ++ [x]) → w.grownBy w' none → olds.length = il.length → (∀ j, j < il.length → ∃ u, olds[j]? = some u ∧ TokT w u (il.getD j []) ∧ okV ok u) → IdleTo ok w v il T v' w' := fun v' w' olds hown hgr hlo hold => by
   have hk : ∀ e : TypeId, KeepT e w w' := fun e k cur fr hkk => by rw [hgr.block k (lt_blk hkk) (by simp)]; exact hkk
   obtain ⟨_, ⟨_, e⟩ | ⟨g, cap, cur, rfl, hb, hg, hn, hm, hs, htk⟩⟩ := hown
   · omega
   · refine ⟨.inr ⟨g, 0, cap, cur, by simp, hg, by simpa using hn, hm, by omega, fun j hj => ?_⟩, ⟨hgr.os, hgr.tape, hgr.output, hgr.size, fun k hk' _ => hgr.block k hk' (by simp)⟩, fun k ⟨a, n, cp, e, hk'⟩ => ?_, fun e _ => hk e⟩
     · rw [List.length_append, List.length_singleton] at hj
       have q : cur[j]? = (olds ++ [x])[j]? := by
         have := congrArg (fun l => l[j]?) htk
         simp only [Nat.mul_one] at this
         rw [List.getElem?_take_of_lt (by omega)] at this
         simpa using this
       by_cases e : j = il.length
       · refine ⟨x, ?_, by rw [last j e]; exact hx.keep (hk _), hox⟩
         rw [Nat.zero_add, q, List.getElem?_append_right (by omega)]
         simp [e, hlo]
       · obtain ⟨u, r1, r2, r3⟩ := hold j (by omega)
         refine ⟨u, ?_, by rw [left j (by omega)]; exact r2.keep (hk _), r3⟩
         rw [Nat.zero_add, q, List.getElem?_append_left (by omega)]
         exact r1
     · injection e with e _ _
       injection e with e
       rw [hk', ← e]
       exact .inr hb
 rcases h with ⟨rfl, rfl⟩ | ⟨b, off, cap, cur, rfl, q1, q2, q3, q4, q5⟩
 · obtain ⟨g, cap, w', hr, h2, h3, h4, _⟩ := run_append_lies (P := P) w t ty w.heap.size 36 i _ 1 24 ht hi hz hsize hby rfl (by omega) (.slice none 0 0) 0 [] (World.ownsRow_nil _ _ _ _) ad 1 c [x] rfl hnews h1 (by omega) (by unfold maxLen; omega) (by omega) (Nat.le_refl _) _ rfl
   exact ⟨_, w', hr, fresh _ w' [] (by simpa using h2) (by simpa [Value.ownBlock] using h3) rfl (fun j hj => absurd hj (by simp))⟩
 · by_cases hroom : il.length + 1 ≤ cap
   · have hr := run_append_room_cells (P := P) (w := w) t ty 36 i ht hi b off il.length cap ad 1 c [x] (by rw [hsize]; rfl) hnews h1 hroom (fun j hj => by
       have : j = 0 := by simpa using hj
       subst this
       rw [hsize, cell_blk q1]
       simp
       omega) (fun j hj => frozen_blk q1 _)
     rw [hsize, Nat.mul_one] at hr
     have hset : w.setCells b (off + il.length) [x] = w.setCell ⟨b, off + il.length, none⟩ x := by rfl
     rw [hset] at hr
     refine ⟨_, _, hr, ⟨.inr ⟨b, off, cap, cur.setIfInBounds (off + il.length) x, by simp, setCell_blk q1 _ _, by simpa using hroom, q3, by simpa using q4, fun j hj => ?_⟩, (Only.refl _ _).setCell (fun _ => ⟨_, _, _, rfl, rfl⟩) _, fun k ⟨a, n, cp, e, hk'⟩ => ?_, fun e he => KeepT.setCell q1 he _⟩⟩
     · rw [List.length_append, List.length_singleton] at hj
       by_cases e : j = il.length
       · exact ⟨x, by rw [e, Array.getElem?_setIfInBounds_self_of_lt (by omega)], by rw [last j e]; exact hx.keep (KeepT.setCell q1 (by decide) _), hox⟩
       · obtain ⟨u, r1, r2, r3⟩ := q5 j (by omega)
         exact ⟨u, by rw [Array.getElem?_setIfInBounds_ne (by omega)]; exact r1, by rw [left j (by omega)]; exact r2.keep (KeepT.setCell q1 (by decide) _), r3⟩
     · injection e with e _ _
       injection e with e
       exact .inl ⟨_, _, _, rfl, by rw [hk', ← e]⟩
   · have hold : ∀ (j : Nat) (u : Value), ((List.range il.length).map fun j => (cur[off + j]?).getD undef)[j]? = some u → w.cell? ((⟨b, off, none⟩ : Addr).add j) = some u := fun j u hj => by
       have hlt : j < il.length := by have := (List.getElem?_eq_some_iff.1 hj).1; simpa using this
       have e : (⟨b, off, none⟩ : Addr).add j = ⟨b, off + j, none⟩ := by unfold Addr.add; split <;> simp_all
       obtain ⟨u', r1, _⟩ := q5 j hlt
       rw [e, cell_blk q1]
       simp [hlt, r1] at hj
       rw [r1, hj]
     obtain ⟨v', w', hr, h2, h3⟩ := run_append_arg_grows (P := P) w t ty 36 i _ 1 24 ht hi hz hsize hby rfl (by omega) ⟨b, off, none⟩ il.length cap ((List.range il.length).map fun j => (cur[off + j]?).getD undef) (by simp) hold ad 1 c [x] rfl hnews (by omega) (by unfold maxLen; omega) (by omega)
     refine ⟨v', w', hr, fresh v' w' _ h2 h3 (by simp) (fun j hj => ?_)⟩
     obtain ⟨u, r1, r2, r3⟩ := q5 j hj
     exact ⟨u, by simp [hj, r1], r2, r3⟩
theorem RefI.setIdle {ok : Nat → Prop} {w w' : World} {Y d : Nat} {c : Cfg} {L : List (Int × Key)} {il il' : List (List Nat)} {nt : Nat} {vL vI vI' : Value} (h : RefI ok w Y d c L il nt vL vI) (hY : w'.heap[Y]? = some (.cells #[.pointer (some ⟨d, 0, none⟩), vL, vI', .int .i64 nt] 85 (0, 0)))
   (hk : ∀ e : TypeId, e ≠ 85 → e ≠ 36 → KeepT e w w') (hI : IdleI ok w' vI' il') (hl : il'.length ≤ 1000) (hne : ∀ p ∈ il', 1 ≤ p.length ∧ p.length ≤ 40) : RefI ok w' Y d c L il' nt vL vI' :=
 ⟨hY, h.seqs.stays (fun k hkk => by obtain ⟨cur, q⟩ := h.own hkk; rw [hk _ (by decide) (by decide) _ _ _ q, q]) (KeepOk.of (hk _ (by decide) (by decide))) (fun _ h => h), hI, h.dec.keep (hk _ (by decide) (by decide)) (hk _ (by decide) (by decide)), h.tails, h.many, h.len, h.toks, hl, hne⟩
def RefEvicted (ok : Nat → Prop) (w : World) (Y d : Nat) (c : Cfg) (L : List (Int × Key)) (il : List (List Nat)) (nt : Nat) (vL vI : Value) (n : Int) (e : Ending) (w' : World) : Prop :=
 e = .returned (.int .i64 (evN n il)) ∧ Only (fun k => k = Y) w w' ∧ ∃ vI', RefI ok w' Y d c L (il.drop (evN n il)) nt vL vI' ∧ ∀ k, atB vI' k → atB vI k
theorem drop_ends {ok : Nat → Prop} {w W : World} {Y d : Nat} {c : Cfg} {L : List (Int × Key)} {il : List (List Nat)} {nt m : Nat} {vL vI vI' : Value} (h : RefI ok w Y d c L il nt vL vI) (hW : W = w.setCell ⟨Y, 2, none⟩ vI') (hm : m ≤ il.length)
   (hv : (vI = .slice none 0 0 ∧ vI' = .slice none 0 0) ∨ ∃ b off cap, vI = .slice (some ⟨b, off, none⟩) il.length cap ∧ vI' = .slice (some ⟨b, if cap = m then off else off + m, none⟩) (il.length - m) (cap - m)) :
   Only (fun k => k = Y) w W ∧ RefI ok W Y d c L (il.drop m) nt vL vI' ∧ ∀ k, atB vI' k → atB vI k := by
 subst hW
 refine ⟨(Only.refl (fun k => k = Y) w).setCell (p := ⟨Y, 2, none⟩) (fun _ => rfl) _, h.setIdle ?_ (fun e he _ => KeepT.setCell h.obj he _) ?_ (by have := h.ilen; simp; omega) (fun p hp => h.ilne p (List.mem_of_mem_drop hp)), fun k hk => ?_⟩
 · rw [setCell_blk h.obj]; rfl
 · rcases h.idle with ⟨e, e0⟩ | ⟨b, off, cap, cur, e, q1, q2, q3, q4, q5⟩
   · rcases hv with ⟨_, hv⟩ | ⟨b, off, cap, hv, _⟩
     · rw [hv, e0]; exact .inl ⟨rfl, by simp⟩
     · rw [e] at hv; cases hv
   · rcases hv with ⟨hv, _⟩ | ⟨b', off', cap', hv, hv'⟩
     · rw [e] at hv; cases hv
     · rw [e] at hv
       cases hv
       refine .inr ⟨b, if cap = m then off else off + m, cap - m, cur, by rw [hv']; simp, ?_, by simp; omega, by omega, by split <;> omega, fun i hi => ?_⟩
       · rw [setCell_far _ _ _ _ _ (fun eb => ?_)]; exact q1
         rw [eb, h.obj] at q1
         injection q1 with q1; injection q1 with _ q1 _; exact absurd q1 (by decide)
       · simp at hi
         obtain ⟨v, r1, r2, r3⟩ := q5 (m + i) (by omega)
         refine ⟨v, ?_, ?_, r3⟩
         · rw [if_neg (by omega)]
           rw [show off + m + i = off + (m + i) by omega]; exact r1
         · have eg : (il.drop m).getD i [] = il.getD (m + i) [] := by rw [List.getD_eq_getElem?_getD, List.getD_eq_getElem?_getD, List.getElem?_drop]
           rw [eg]
           exact r2.keep (KeepT.setCell h.obj (by decide) _)
 · obtain ⟨a, n, cp, e, hk⟩ := hk
   rcases hv with ⟨_, hv⟩ | ⟨b, off, cap, hv, hv'⟩
   · rw [hv] at e; cases e
   · rw [hv'] at e
     injection e with e _ _
     injection e with e
     exact ⟨_, _, _, hv, by rw [hk, ← e]⟩
set_option maxRecDepth 100000 in
set_option maxHeartbeats 2000000 in
theorem refevict_any (Y d : Nat) (c : Cfg) (L : List (Int × Key)) (ok : Nat → Prop) (il : List (List Nat)) (nt : Nat) (vL vI : Value) (n : Int) (w : World) (h : RefI ok w Y d c L il nt vL vI) :
   Calls Tryz.prog 29 #[.pointer (some ⟨Y, 0, none⟩), .int .i64 n] w fun e w' => RefEvicted ok w Y d c L il nt vL vI n e w' := by
 have y2 : w.cell? ⟨Y, 2, none⟩ = some vI := by rw [cell_blk h.obj]; rfl
 have fy := frozen_blk h.obj 2
 have hil := h.ilen
 have Hh := hide h
 have hfin : ∀ (m : Nat) (vI' : Value), evN n il = m → m ≤ il.length → ((vI = .slice none 0 0 ∧ vI' = .slice none 0 0) ∨ ∃ b off cap, vI = .slice (some ⟨b, off, none⟩) il.length cap ∧ vI' = .slice (some ⟨b, if cap = m then off else off + m, none⟩) (il.length - m) (cap - m)) → RefEvicted ok w Y d c L il nt vL vI n (.returned (.int .i64 m)) (w.setCell ⟨Y, 2, none⟩ vI') := fun m vI' hm hle hv => by
   obtain ⟨q1, q2, q3⟩ := drop_ends Hh.out rfl hle hv
   rw [← hm] at q2 ⊢
   exact ⟨rfl, q1, vI', q2, q3⟩
 have Hfin := hide hfin
 clear hfin
 have hcases : (vI = .slice none 0 0 ∧ il.length = 0) ∨ ∃ b off cap, vI = .slice (some ⟨b, off, none⟩) il.length cap ∧ il.length ≤ cap ∧ cap ≤ maxLen := by
   rcases h.idle with ⟨e, e0⟩ | ⟨b, off, cap, cur, e, q1, q2, q3, q4, q5⟩
   · exact .inl ⟨e, by rw [e0]; rfl⟩
   · exact .inr ⟨b, off, cap, e, q2, q3⟩
 obtain ⟨m, em⟩ : ∃ m : Nat, m = evN n il := ⟨_, rfl⟩
 have hm : m = if n < 0 then 0 else if (il.length : Int) < n then il.length else n.toNat := by
   rw [em]
   unfold evN
   split
   · omega
   · split <;> omega
 have hml : m ≤ il.length := by rw [em]; unfold evN; omega
 have Hm := hide hm
 have Hem := hide em
 clear h hm em
 rcases hcases with ⟨ev, h0⟩ | ⟨b, off, cap, ev, hc1, hc2⟩
 · have Hev : Hid (evN n il = 0) := by show _ = _; rw [← Hem.out]; omega
   have Hfin' : Hid (RefEvicted ok w Y d c L il nt vL vI n (.returned (.int .i64 0)) (w.setCell ⟨Y, 2, none⟩ (.slice none 0 0))) := Hfin.out 0 _ Hev.out (by omega) (.inl ⟨ev, rfl⟩)
   rw [ev] at y2
   have h0' : (il.length : Int) = 0 := by omega
   clear ev Hfin
   go_enter Tryz.func29, Tryz.ntmps29
   by_cases hn0 : n < 0
   · go_wp2
     go_ret
     exact Hfin'.out
   · by_cases hn1 : 0 < n
     · go_wp2
       go_ret
       exact Hfin'.out
     · have e0 : n = 0 := by omega
       have He0 := hide e0
       clear e0
       have e1 : decide (n < 0) = false := by simpa using hn0
       have e2 : decide (0 < n) = false := by simpa using hn1
       go_wp2
       go_ret
       have := Hfin'.out
       rw [He0.out] at this ⊢
       exact this
 · unfold maxLen at hc2
   have Hfin' : Hid (RefEvicted ok w Y d c L il nt vL vI n (.returned (.int .i64 m)) (w.setCell ⟨Y, 2, none⟩ (.slice (some ⟨b, if cap = m then off else off + m, none⟩) (il.length - m) (cap - m)))) := Hfin.out m _ Hem.out.symm hml (.inr ⟨b, off, cap, ev, rfl⟩)
   rw [ev] at y2
   clear Hfin ev
   go_enter Tryz.func29, Tryz.ntmps29
   by_cases hn0 : n < 0
   · have e0 : m = 0 := by rw [Hm.out, if_pos hn0]
     subst e0
     have hx : (Value.slice (some ⟨b, if cap = 0 then off else off + 0, none⟩) (il.length - 0) (cap - 0)) = .slice (some ⟨b, off, none⟩) il.length cap := by simp
     rw [hx] at Hfin'
     go_wp2
     go_ret
     exact Hfin'.out
   · by_cases hn1 : (il.length : Int) < n
     · have e0 : m = il.length := by rw [Hm.out, if_neg hn0, if_pos hn1]
       subst e0
       rw [Nat.sub_self] at Hfin'
       by_cases hcap : cap = il.length
       · rw [if_pos hcap, hcap, Nat.sub_self] at Hfin'
         subst hcap
         go_wp2
         go_ret
         exact Hfin'.out
       · rw [if_neg hcap] at Hfin'
         go_wp2
         go_ret
         exact Hfin'.out
     · have e0 : m = n.toNat := by rw [Hm.out, if_neg hn0, if_neg hn1]
       obtain ⟨n', en⟩ : ∃ n' : Nat, n = n' := ⟨n.toNat, by omega⟩
       have e0' : n' = m := by omega
       rw [e0'] at en
       subst en
       clear e0 e0' Hm Hem
       by_cases hcap : cap = m
       · rw [if_pos hcap, hcap, Nat.sub_self] at Hfin'
         subst hcap
         have hil2 : il.length = cap := by omega
         rw [hil2, Nat.sub_self] at Hfin'
         rw [hil2] at y2
         go_wp2
         go_ret
         exact Hfin'.out
       · rw [if_neg hcap] at Hfin'
         go_wp2
         go_ret
         exact Hfin'.out
section
variable {F ok : Nat → Prop} {w w' : World} {g : Parts} {c : Cfg} {L : List (Int × Key)} {il : List (List Nat)}
theorem HoardI.cells (h : HoardI F ok w g c L il) : w.cell? ⟨g.X, 0, none⟩ = some (.int .i64 c.blocks) ∧ w.cell? ⟨g.X, 2, none⟩ = some (.int .i64 c.layers) ∧ w.cell? ⟨g.X, 5, none⟩ = some (.int .i64 c.vocab) ∧ w.cell? ⟨g.X, 7, none⟩ = some (.pointer (some ⟨g.M, 0, none⟩)) ∧ w.cell? ⟨g.X, 8, none⟩ = some (.pointer (some ⟨g.PL, 0, none⟩)) ∧ w.cell? ⟨g.X, 13, none⟩ = some (.map (some g.SM)) ∧ g.X < w.heap.size := by
 obtain ⟨B, free, hS, _⟩ := h.ex
 obtain ⟨vI, vF, N, Mm, hl⟩ := hS.low
 obtain ⟨arr, o0, o1, o2, o3, o4, o5, o6, o7, o8⟩ := hl.obj
 exact ⟨by rw [cell_blk o0]; exact o1, by rw [cell_blk o0]; exact o3, by rw [cell_blk o0]; exact o4, by rw [cell_blk o0]; exact o5, by rw [cell_blk o0]; exact o6, by rw [cell_blk o0]; exact o8, lt_blk o0⟩
theorem HoardI.look_none (h : HoardI F ok w g c L il) (id : Int) (hid : -9223372036854775808 ≤ id ∧ id ≤ 9223372036854775807) (hno : assoc L id = none) :
   (Instr.lookup 72 (.map (some g.SM)) (.int .i64 id) true).run Tryz.prog w = .ok (.tuple #[.pointer none, .bool false]) w := by
 obtain ⟨B, free, hS, hM⟩ := h.ex
 have := hM.look (t := 72) Tryz.underlying3 Tryz.underlying72 (Tryz.zero_ptr w) id (int_wf id hid.1 hid.2)
 rw [hno] at this
 exact this
theorem HoardI.seq (h : HoardI F ok w g c L il) (id : Int) (hid : -9223372036854775808 ≤ id ∧ id ≤ 9223372036854775807) {k : Key} (hk : assoc L id = some k) :
   ∃ B b U, B k = some b ∧ SeqAt ok w c B U k ∧ k.1 ≠ [] ∧ k.1.length ≤ 40 ∧ (∀ t ∈ k.1, t < c.vocab) ∧ (Instr.lookup 72 (.map (some g.SM)) (.int .i64 id) true).run Tryz.prog w = .ok (.tuple #[.pointer (some ⟨b, 0, none⟩), .bool true]) w := by
 obtain ⟨B, free, hS, hM⟩ := h.ex
 obtain ⟨L1, L2, eL, _⟩ := assoc_split hk
 have hm : (id, k) ∈ L := by rw [eL]; simp
 have hne := h.ne _ hm
 have hk' := hS.pure.key k (mem_map_snd hm)
 obtain ⟨b, hb⟩ := some_of_ne (hS.mem (mem_map_snd hm) hne)
 have := hM.look (t := 72) Tryz.underlying3 Tryz.underlying72 (Tryz.zero_ptr w) id (int_wf id hid.1 hid.2)
 rw [hk] at this
 simp only [Option.map_some, hb, Option.getD_some, Option.isSome_some] at this
 exact ⟨B, b, _, hb, hS.seqAt k (fun _ => .inl ⟨k, mem_map_snd hm, on_self _ _ hne⟩), hne, hk'.2.1, hk'.2.2, this⟩
theorem HoardI.len (h : HoardI F ok w g c L il) (ty : TypeId) : (Builtin.len_ #[72] ty #[.map (some g.SM)]).run Tryz.prog w = .ok (.int .i64 L.length) w := by
 obtain ⟨B, free, hS, hM⟩ := h.ex
 exact hM.len Tryz.underlying72 ty
end
theorem natsOf_ne {n : Nat} {f : Nat → Int} (h : 0 < n) : natsOf n f ≠ [] := fun e => by
 have := natsOf_len n f
 rw [e] at this
 simp at this
 omega
theorem natsOf_tok {n v : Nat} {f : Nat → Int} (h : ∀ j, j < n → ¬ badTok v (f j)) : ∀ t ∈ natsOf n f, t < v := fun t ht => by
 unfold natsOf at ht
 obtain ⟨j, hj, rfl⟩ := List.mem_map.1 ht
 have := h j (List.mem_range.1 hj)
 unfold badTok at this
 omega
theorem natsOf_ints {w : World} {vt : Value} {n v : Nat} {f : Nat → Int} (ht : Ints w vt n f) (h : ∀ j, j < n → ¬ badTok v (f j)) : Ints w vt (natsOf n f).length (tkI (natsOf n f)) := by
 rw [natsOf_len]
 exact ht.congr (fun j hj => (natsOf_tk n f j hj (by have := h j hj; unfold badTok at this; omega)).symm)
open Classical in
noncomputable def createS (c : Cfg) (L : List (Int × Key)) (il : List (List Nat)) (id : Int) (n : Nat) (f : Nat → Int) : Nat :=
 if assoc L id ≠ none then 2 else if 8 ≤ L.length ∨ n = 0 then 1 else if ∃ j, j < n ∧ badTok c.vocab (f j) then 4 else if 40 < n then 5 else if fullS c ([], 0) (L.map (·.2)) il (natsOf n f) then 6 else 0
def HCreated (F ok : Nat → Prop) (w : World) (g : Parts) (c : Cfg) (L : List (Int × Key)) (il : List (List Nat)) (id : Int) (n : Nat) (f : Nat → Int) (tn : Nat) (e : Ending) (w' : World) : Prop :=
 e = .returned (.int .i64 (createS c L il id n f)) ∧ ((createS c L il id n f ≠ 0 ∧ Below w.heap.size w w') ∨
   (createS c L il id n f = 0 ∧ Moves (fun k => F k ∨ k = g.SM) w w' ∧ HoardI (grow F w) ok w' g c (L ++ [(id, endKey c.slots (natsOf n f) tn)]) (ilS c ([], 0) (L.map (·.2)) il (natsOf n f))))
set_option maxRecDepth 100000 in
set_option maxHeartbeats 2000000 in
theorem hcreate_any (F ok : Nat → Prop) (g : Parts) (c : Cfg) (hc : c.ok) (L : List (Int × Key)) (il : List (List Nat)) (id : Int) (n : Nat) (f : Nat → Int) (vt : Value) (tn : Nat) (w : World) (h : HoardI F ok w g c L il) (hid : -9223372036854775808 ≤ id ∧ id ≤ 9223372036854775807) (ht : Ints w vt n f) (htn : tn ≠ 0 ∧ ∀ h ∈ L.map (·.2), h.2 ≠ tn) (hok : ∀ b, w.heap.size ≤ b → ok b) :
   Calls Tryz.prog 14 #[.pointer (some ⟨g.X, 0, none⟩), .int .i64 id, vt] w fun e w' => HCreated F ok w g c L il id n f tn e w' := by
 obtain ⟨x0, x2, x5, x7, x8, x13, hXl⟩ := h.cells
 have hfew := h.few
 have hlen := h.len
 have hcf := containsfunc_any g.X n c hc vt f w x5 ht
 have Hcf := hide hcf
 have Ht := hide ht
 have Hh := hide h
 obtain ⟨at', ct, rfl, ht1, ht2, _⟩ := ht
 unfold maxLen at ht2
 clear hcf
 by_cases hex : assoc L id = none
 · have hlook := h.look_none id hid hex
   have Hex := hide hex
   clear hex h
   by_cases h8 : 8 ≤ L.length
   · have hcode : createS c L il id n f = 1 := by unfold createS; rw [if_neg (by simp [Hex.out]), if_pos (.inl h8)]
     have Hcode := hide hcode
     clear hcode
     go_enter Tryz.func14, Tryz.ntmps14
     go_wp2
     go_ret
     exact ⟨by rw [Hcode.out]; rfl, .inl ⟨by rw [Hcode.out]; simp, Below.refl _ _⟩⟩
   · by_cases hn0 : n = 0
     · have hcode : createS c L il id n f = 1 := by unfold createS; rw [if_neg (by simp [Hex.out]), if_pos (.inr hn0)]
       have Hcode := hide hcode
       have hnb : ((n : Int) == 0) = true := by rw [beq_iff_eq]; omega
       have hnb2 : (n : Int) = 0 := by omega
       have hnb3 : decide (n = 0) = true := by simpa using hn0
       clear hcode hn0 hnb2
       go_enter Tryz.func14, Tryz.ntmps14
       go_wp2
       go_ret
       exact ⟨by rw [Hcode.out]; rfl, .inl ⟨by rw [Hcode.out]; simp, Below.refl _ _⟩⟩
     · have hnb : ((n : Int) == 0) = false := by rw [beq_eq_false_iff_ne]; omega
       go_enter Tryz.func14, Tryz.ntmps14
       go_wp2_with fail
       refine Hcf.out.mono ?_
       rintro e w1 ⟨hcf, rfl⟩
       clear Hcf
       rcases hcf with ⟨rfl, hbad⟩ | ⟨rfl, hgood⟩
       · have hcode : createS c L il id n f = 4 := by unfold createS; rw [if_neg (by simp [Hex.out]), if_neg (by omega), if_pos hbad]
         have Hcode := hide hcode
         clear hcode hbad
         go_wp2
         go_ret
         exact ⟨by rw [Hcode.out]; rfl, .inl ⟨by rw [Hcode.out]; simp, Below.refl _ _⟩⟩
       · have hnbad : ¬ ∃ j, j < n ∧ badTok c.vocab (f j) := fun ⟨j, hj, hb⟩ => hgood j hj hb
         by_cases h40 : 40 < n
         · have hcode : createS c L il id n f = 5 := by unfold createS; rw [if_neg (by simp [Hex.out]), if_neg (by omega), if_neg hnbad, if_pos h40]
           have Hcode := hide hcode
           clear hcode hgood hnbad
           go_wp2
           go_ret
           exact ⟨by rw [Hcode.out]; rfl, .inl ⟨by rw [Hcode.out]; simp, Below.refl _ _⟩⟩
         · have hput := hput_new F ok g c hc L il id (natsOf n f) _ tn w1 Hh.out hid Hex.out (by omega) (natsOf_ne (by omega)) (by rw [natsOf_len]; omega) (natsOf_tok hgood) (natsOf_ints Ht.out hgood) htn hok
           have Hput := hide hput
           have Hnb := hide hnbad
           clear hput hgood hnbad
           go_wp2_with fail
           refine Hput.out.mono ?_
           rintro e w2 (⟨hf, rfl, hb⟩ | ⟨hf, rfl, hM, hH⟩)
           · have hcode : createS c L il id n f = 6 := by unfold createS; rw [if_neg (by simp [Hex.out]), if_neg (by omega), if_neg Hnb.out, if_neg h40, if_pos hf]
             have Hcode := hide hcode
             clear hcode hf Hput
             go_wp2
             go_ret
             exact ⟨by rw [Hcode.out]; rfl, .inl ⟨by rw [Hcode.out]; simp, hb⟩⟩
           · have hcode : createS c L il id n f = 0 := by unfold createS; rw [if_neg (by simp [Hex.out]), if_neg (by omega), if_neg Hnb.out, if_neg h40, if_neg hf]
             have Hcode := hide hcode
             have HH := hide hH
             clear hcode hf hH Hput
             go_wp2
             go_ret
             exact ⟨by rw [Hcode.out]; rfl, .inr ⟨Hcode.out, hM, HH.out⟩⟩
 · obtain ⟨k, hk⟩ := some_of_ne hex
   obtain ⟨B, b, U, hb, _, _, _, _, hlook⟩ := h.seq id hid hk
   have hcode : createS c L il id n f = 2 := by unfold createS; rw [if_pos hex]
   have Hcode := hide hcode
   clear hcode hex hk h
   go_enter Tryz.func14, Tryz.ntmps14
   go_wp2
   go_ret
   exact ⟨by rw [Hcode.out]; rfl, .inl ⟨by rw [Hcode.out]; simp, Below.refl _ _⟩⟩
end Go.Proofs.YtlmflighkkgikaaGreat
