import Derived.Test.YtlmflighkkgikaaP09
import Derived.Test.YtlmflighkkgikaaP34

namespace Go.Proofs.Ytlmflighkkgikaa
structure PutS where
 keeps : Bool
 anew : Nat
 taken : List (List Nat)
structure PutE where
 keeps : Bool
 anew : Nat
 tail : Nat
 nt : Nat
theorem far_factsS {s v : Nat} {H : List Key} {il : List (List Nat)} (hp : Pure s v H il) (T : List Nat) :
   farS s H il T <+: T ∧ (farS s H il T).length % s = 0 ∧ ((farS s H il T, 0) = (([], 0) : Key) ∨ live s H il (farS s H il T, 0)) ∧ ∀ e, (farS s H il T).length < e → e ≤ T.length → ¬ live s H il (T.take e, 0) := by
 have := far_facts (B := fun k => if live s H il k then some 0 else none) hp (fun k => by by_cases e : live s H il k <;> simp [e]) T
 obtain ⟨h1, _, _, h2, h3, h4⟩ := this
 exact ⟨h1, h2, h3, h4⟩
end Go.Proofs.Ytlmflighkkgikaa
namespace Go.Proofs.Ytlmflighkkgikaa
open Go.RowKit
attribute [local go_sem ↓] Go.wp_at_zero Go.wp_at_succ
section
variable {F ok : Nat → Prop} {w w' : World} {g : Parts} {c : Cfg} {L : List (Int × Key)} {il : List (List Nat)}
theorem HoardI.cells (h : HoardI F ok w g c L il) : w.cell? ⟨g.X, 0, none⟩ = some (.int .i64 c.blocks) ∧ w.cell? ⟨g.X, 2, none⟩ = some (.int .i64 c.layers) ∧ w.cell? ⟨g.X, 5, none⟩ = some (.int .i64 c.vocab) ∧ w.cell? ⟨g.X, 7, none⟩ = some (.pointer (some ⟨g.M, 0, none⟩)) ∧ w.cell? ⟨g.X, 8, none⟩ = some (.pointer (some ⟨g.PL, 0, none⟩)) ∧ w.cell? ⟨g.X, 13, none⟩ = some (.map (some g.SM)) ∧ g.X < w.heap.size := by
 obtain ⟨B, free, hS, _⟩ := h.ex
 obtain ⟨vI, vF, N, Mm, hl⟩ := hS.low
 obtain ⟨arr, o0, o1, o2, o3, o4, o5, o6, o7, o8⟩ := hl.obj
 exact ⟨by rw [cell_blk o0]; exact o1, by rw [cell_blk o0]; exact o3, by rw [cell_blk o0]; exact o4, by rw [cell_blk o0]; exact o5, by rw [cell_blk o0]; exact o6, by rw [cell_blk o0]; exact o8, lt_blk o0⟩
theorem HoardI.look_none (h : HoardI F ok w g c L il) (id : Int) (hid : -9223372036854775808 ≤ id ∧ id ≤ 9223372036854775807) (hno : assoc L id = none) :
   (Instr.lookup 71 (.map (some g.SM)) (.int .i64 id) true).run Try.prog w = .ok (.tuple #[.pointer none, .bool false]) w := by
 obtain ⟨B, free, hS, hM⟩ := h.ex
 have := hM.look (t := 71) Try.underlying3 Try.underlying71 (Try.zero_ptr w) id (int_wf id hid.1 hid.2)
 rw [hno] at this
 exact this
theorem HoardI.seq (h : HoardI F ok w g c L il) (id : Int) (hid : -9223372036854775808 ≤ id ∧ id ≤ 9223372036854775807) {k : Key} (hk : assoc L id = some k) :
   ∃ B b U, B k = some b ∧ SeqAt ok w c B U k ∧ k.1 ≠ [] ∧ k.1.length ≤ 40 ∧ (∀ t ∈ k.1, t < c.vocab) ∧ (Instr.lookup 71 (.map (some g.SM)) (.int .i64 id) true).run Try.prog w = .ok (.tuple #[.pointer (some ⟨b, 0, none⟩), .bool true]) w := by
 obtain ⟨B, free, hS, hM⟩ := h.ex
 obtain ⟨L1, L2, eL, _⟩ := assoc_split hk
 have hm : (id, k) ∈ L := by rw [eL]; simp
 have hne := h.ne _ hm
 have hk' := hS.pure.key k (mem_map_snd hm)
 obtain ⟨b, hb⟩ := some_of_ne (hS.mem (mem_map_snd hm) hne)
 have := hM.look (t := 71) Try.underlying3 Try.underlying71 (Try.zero_ptr w) id (int_wf id hid.1 hid.2)
 rw [hk] at this
 simp only [Option.map_some, hb, Option.getD_some, Option.isSome_some] at this
 exact ⟨B, b, _, hb, hS.seqAt k (fun _ => .inl ⟨k, mem_map_snd hm, on_self _ _ hne⟩), hne, hk'.2.1, hk'.2.2, this⟩
theorem HoardI.len (h : HoardI F ok w g c L il) (ty : TypeId) : (Builtin.len_ #[71] ty #[.map (some g.SM)]).run Try.prog w = .ok (.int .i64 L.length) w := by
 obtain ⟨B, free, hS, hM⟩ := h.ex
 exact hM.len Try.underlying71 ty
end
theorem natsOf_ne {n : Nat} {f : Nat → Int} (h : 0 < n) : natsOf n f ≠ [] := fun e => by
 have := natsOf_len n f
 rw [e] at this
 simp at this
 omega
theorem natsOf_tok {n v : Nat} {f : Nat → Int} (h : ∀ j, j < n → ¬ badTok v (f j)) : ∀ t ∈ natsOf n f, t < v := fun t ht => by
 unfold natsOf at ht
 obtain ⟨j, hj, rfl⟩ := List.mem_map.1 ht
 have := h j (List.mem_range.1 hj)
 unfold badTok at this
 omega
theorem natsOf_ints {w : World} {vt : Value} {n v : Nat} {f : Nat → Int} (ht : Ints w vt n f) (h : ∀ j, j < n → ¬ badTok v (f j)) : Ints w vt (natsOf n f).length (tkI (natsOf n f)) := by
 rw [natsOf_len]
 exact ht.congr (fun j hj => (natsOf_tk n f j hj (by have := h j hj; unfold badTok at this; omega)).symm)
open Classical in
noncomputable def createS (c : Cfg) (L : List (Int × Key)) (il : List (List Nat)) (id : Int) (n : Nat) (f : Nat → Int) : Nat :=
 if assoc L id ≠ none then 2 else if 8 ≤ L.length ∨ n = 0 then 1 else if ∃ j, j < n ∧ badTok c.vocab (f j) then 4 else if 40 < n then 5 else if fullS c ([], 0) (L.map (·.2)) il (natsOf n f) then 6 else 0
def HCreated (F ok : Nat → Prop) (w : World) (g : Parts) (c : Cfg) (L : List (Int × Key)) (il : List (List Nat)) (id : Int) (n : Nat) (f : Nat → Int) (tn : Nat) (e : Ending) (w' : World) : Prop :=
 e = .returned (.int .i64 (createS c L il id n f)) ∧ ((createS c L il id n f ≠ 0 ∧ Below w.heap.size w w') ∨
   (createS c L il id n f = 0 ∧ Moves (fun k => F k ∨ k = g.SM) w w' ∧ HoardI (grow F w) ok w' g c (L ++ [(id, endKey c.slots (natsOf n f) tn)]) (ilS c ([], 0) (L.map (·.2)) il (natsOf n f))))
set_option maxRecDepth 100000 in
set_option maxHeartbeats 2000000 in
theorem hcreate_any (F ok : Nat → Prop) (g : Parts) (c : Cfg) (hc : c.ok) (L : List (Int × Key)) (il : List (List Nat)) (id : Int) (n : Nat) (f : Nat → Int) (vt : Value) (tn : Nat) (w : World) (h : HoardI F ok w g c L il) (hid : -9223372036854775808 ≤ id ∧ id ≤ 9223372036854775807) (ht : Ints w vt n f) (htn : tn ≠ 0 ∧ ∀ h ∈ L.map (·.2), h.2 ≠ tn) (hok : ∀ b, w.heap.size ≤ b → ok b) :
   Calls Try.prog 13 #[.pointer (some ⟨g.X, 0, none⟩), .int .i64 id, vt] w fun e w' => HCreated F ok w g c L il id n f tn e w' := by
 obtain ⟨x0, x2, x5, x7, x8, x13, hXl⟩ := h.cells
 have hfew := h.few
 have hlen := h.len
 have hcf := containsfunc_any g.X n c hc vt f w x5 ht
 have Hcf := hide hcf
 have Ht := hide ht
 have Hh := hide h
 obtain ⟨at', ct, rfl, ht1, ht2, _⟩ := ht
 unfold maxLen at ht2
 clear hcf
 by_cases hex : assoc L id = none
 · have hlook := h.look_none id hid hex
   have Hex := hide hex
   clear hex h
   by_cases h8 : 8 ≤ L.length
   · have hcode : createS c L il id n f = 1 := by unfold createS; rw [if_neg (by simp [Hex.out]), if_pos (.inl h8)]
     have Hcode := hide hcode
     clear hcode
     go_enter Try.func13, Try.ntmps13
     go_wp2
     go_ret
     exact ⟨by rw [Hcode.out]; rfl, .inl ⟨by rw [Hcode.out]; simp, Below.refl _ _⟩⟩
   · by_cases hn0 : n = 0
     · have hcode : createS c L il id n f = 1 := by unfold createS; rw [if_neg (by simp [Hex.out]), if_pos (.inr hn0)]
       have Hcode := hide hcode
       have hnb : ((n : Int) == 0) = true := by rw [beq_iff_eq]; omega
       have hnb2 : (n : Int) = 0 := by omega
       have hnb3 : decide (n = 0) = true := by simpa using hn0
       clear hcode hn0 hnb2
       go_enter Try.func13, Try.ntmps13
       go_wp2
       go_ret
       exact ⟨by rw [Hcode.out]; rfl, .inl ⟨by rw [Hcode.out]; simp, Below.refl _ _⟩⟩
     · have hnb : ((n : Int) == 0) = false := by rw [beq_eq_false_iff_ne]; omega
       go_enter Try.func13, Try.ntmps13
       go_wp2_with fail
       refine Hcf.out.mono ?_
       rintro e w1 ⟨hcf, rfl⟩
       clear Hcf
       rcases hcf with ⟨rfl, hbad⟩ | ⟨rfl, hgood⟩
       · have hcode : createS c L il id n f = 4 := by unfold createS; rw [if_neg (by simp [Hex.out]), if_neg (by omega), if_pos hbad]
         have Hcode := hide hcode
         clear hcode hbad
         go_wp2
         go_ret
         exact ⟨by rw [Hcode.out]; rfl, .inl ⟨by rw [Hcode.out]; simp, Below.refl _ _⟩⟩
       · have hnbad : ¬ ∃ j, j < n ∧ badTok c.vocab (f j) := fun ⟨j, hj, hb⟩ => hgood j hj hb
         by_cases h40 : 40 < n
         · have hcode : createS c L il id n f = 5 := by unfold createS; rw [if_neg (by simp [Hex.out]), if_neg (by omega), if_neg hnbad, if_pos h40]
           have Hcode := hide hcode
           clear hcode hgood hnbad
           go_wp2
           go_ret
           exact ⟨by rw [Hcode.out]; rfl, .inl ⟨by rw [Hcode.out]; simp, Below.refl _ _⟩⟩
         · have hput := hput_new F ok g c hc L il id (natsOf n f) _ tn w1 Hh.out hid Hex.out (by omega) (natsOf_ne (by omega)) (by rw [natsOf_len]; omega) (natsOf_tok hgood) (natsOf_ints Ht.out hgood) htn hok
           have Hput := hide hput
           have Hnb := hide hnbad
           clear hput hgood hnbad
           go_wp2_with fail
           refine Hput.out.mono ?_
           rintro e w2 (⟨hf, rfl, hb⟩ | ⟨hf, rfl, hM, hH⟩)
           · have hcode : createS c L il id n f = 6 := by unfold createS; rw [if_neg (by simp [Hex.out]), if_neg (by omega), if_neg Hnb.out, if_neg h40, if_pos hf]
             have Hcode := hide hcode
             clear hcode hf Hput
             go_wp2
             go_ret
             exact ⟨by rw [Hcode.out]; rfl, .inl ⟨by rw [Hcode.out]; simp, hb⟩⟩
           · have hcode : createS c L il id n f = 0 := by unfold createS; rw [if_neg (by simp [Hex.out]), if_neg (by omega), if_neg Hnb.out, if_neg h40, if_neg hf]
             have Hcode := hide hcode
             have HH := hide hH
             clear hcode hf hH Hput
             go_wp2
             go_ret
             exact ⟨by rw [Hcode.out]; rfl, .inr ⟨Hcode.out, hM, HH.out⟩⟩
 · obtain ⟨k, hk⟩ := some_of_ne hex
   obtain ⟨B, b, U, hb, _, _, _, _, hlook⟩ := h.seq id hid hk
   have hcode : createS c L il id n f = 2 := by unfold createS; rw [if_pos hex]
   have Hcode := hide hcode
   clear hcode hex hk h
   go_enter Try.func13, Try.ntmps13
   go_wp2
   go_ret
   exact ⟨by rw [Hcode.out]; rfl, .inl ⟨by rw [Hcode.out]; simp, Below.refl _ _⟩⟩
end Go.Proofs.Ytlmflighkkgikaa
