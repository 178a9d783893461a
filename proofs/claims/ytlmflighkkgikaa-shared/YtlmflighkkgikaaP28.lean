import Derived.Test.YtlmflighkkgikaaP13
import Derived.Test.YtlmflighkkgikaaP23
import Derived.Test.YtlmflighkkgikaaP26
import Derived.Test.YtlmflighkkgikaaP27

namespace Go.Proofs.Ytlmflighkkgikaa
open Go.RowKit
attribute [local go_sem ↓] Go.wp_at_zero Go.wp_at_succ
set_option maxRecDepth 100000 in
set_option maxHeartbeats 1000000 in
theorem newpool_any (n : Nat) (w : World) (h1 : 1 ≤ n) (h2 : n ≤ 32) :
   Calls Try.prog 46 #[.int .i64 n] w fun e w' =>
     ∃ PL vF free, e = .returned (.pointer (some ⟨PL, 0, none⟩)) ∧ PoolI w' PL vF free ∧ free.length = n ∧ Below w.heap.size w w' ∧ w.heap.size ≤ PL ∧ (∀ g, vF.ownBlock = some g → w.heap.size ≤ g) ∧ ∀ b ∈ free, w.heap.size ≤ b := by
 obtain ⟨i0, hi, hz0, hz1, hz2⟩ := info_parts Try.info_ptr
 go_enter Try.func46, Try.ntmps46
 go_wp2
 go_loopw [7] (fun i wr => ∃ (v : Value) (fs : List Nat), fs.length ≤ n ∧ i = .int .i64 fs.length ∧ wr.heap[w.heap.size]? = some (.cells #[v] 115 (0, 0)) ∧ wr.ownsRow (w.heap.size + 1) 61 1 v fs.length (fs.map ptrV) ∧
     Hid (∀ b ∈ fs, w.heap.size < b ∧ wr.heap[b]? = some (.cells #[.slice none 0 0, .pointer none, .int .i64 0] 87 (0, 0))) ∧ Hid fs.Nodup ∧ Below w.heap.size w wr) (fun i _ => n - (intOf i).toNat)
 case atStart => exact ⟨.slice none 0 0, [], Nat.zero_le _, rfl, alloc_new w _, World.ownsRow_nil _ _ _ _, fun b hb => absurd hb (by simp), List.nodup_nil, (Below.refl _ _).alloc (Nat.le_refl _) _⟩
 case round =>
   obtain ⟨v, fs, hk, rfl, hobj, hown, Hfree, Hnd, hbel⟩ := hrel
   have hpl := lt_blk hobj
   by_cases hlt : fs.length < n
   · have c0 : wr.cell? ⟨w.heap.size, 0, none⟩ = some v := by rw [cell_blk hobj]; rfl
     have f0 := frozen_blk hobj 0
     have hneP : some w.heap.size ≠ v.ownBlock := fun e => by have := (hown.lt _ e.symm).1; omega
     obtain ⟨av, cv, rfl⟩ := owns_form hown
     go_wp2_with (at_builtin; refine wpList_append_lies _ rfl _ _ _ rfl (w.heap.size + 1) 61 i0 _ 1 8 Try.underlying68 hi hz0 hz1 hz2 rfl (by omega) (.slice av fs.length cv) fs.length _ rfl ((hown.alloc _).alloc _) ⟨wr.heap.size + 1, 0, none⟩ 1 1 [.pointer (some ⟨wr.heap.size, 0, none⟩)] rfl rfl (by intro j u hj; have := one_new (wr.alloc (.cells #[.slice none 0 0, .pointer none, .int .i64 0] 87)) (.pointer (some ⟨wr.heap.size, 0, none⟩)) 61 j u hj; simpa using this) (by intro u hu; simp at hu; subst hu; rfl) (by omega) (by unfold maxLen; omega) (by omega) (by simp; omega) (wr.heap.size + 2) (by simp) ?_; intro g cap w1 hown1 hgrow hat hlt1; have hobj1 := (hgrow.block w.heap.size (by simp; omega) hneP).trans ((alloc_old _ _ _ (by simp; omega)).trans ((alloc_old _ _ _ hpl).trans hobj)); have d0 : w1.cell? ⟨w.heap.size, 0, none⟩ = some (.slice av fs.length cv) := (by rw [cell_blk hobj1]; rfl); have g0 := frozen_blk hobj1 0)
     have hnewb := alloc_new wr (.cells #[.slice none 0 0, .pointer none, .int .i64 0] 87)
     have hown2 := (hown.alloc (.cells #[.slice none 0 0, .pointer none, .int .i64 0] 87))
     have keep : ∀ b, (wr.alloc (.cells #[.slice none 0 0, .pointer none, .int .i64 0] 87)).heap[b]? = some (.cells #[.slice none 0 0, .pointer none, .int .i64 0] 87 (0, 0)) → b ≠ w.heap.size → (w1.setCell ⟨w.heap.size, 0, none⟩ (.slice (some ⟨g, 0, none⟩) (fs.length + 1) cap)).heap[b]? = some (.cells #[.slice none 0 0, .pointer none, .int .i64 0] 87 (0, 0)) := fun b hb hne => by
       rw [setCell_far _ _ _ _ _ hne, hgrow.block b (by have := lt_blk hb; simp at this ⊢; omega) (owns_ne hown2 hb (by decide)), alloc_old _ _ _ (lt_blk hb)]
       exact hb
     have hbl := hbel.size
     go_roundw
     case rel =>
       refine ⟨.slice (some ⟨g, 0, none⟩) (fs.length + 1) cap, fs ++ [wr.heap.size], by simp only [List.length_append, List.length_singleton]; omega, by rw [List.length_append, List.length_singleton]; go_num, ?_, ?_, fun b hb => ?_, ?_, (((hbel.alloc hbl _).alloc (by simp; omega) _).grown hgrow (by simp; omega) (fun b hb => by have := (hown.lt b hb).1; omega)).setCell (Nat.le_refl _) _⟩
       · rw [setCell_blk hobj1]; rfl
       · rw [List.length_append, List.map_append]
         exact ownsRow_setCell_below hown1 (by show w.heap.size < w.heap.size + 1; omega) _
       · rcases List.mem_append.1 hb with hb | hb
         · obtain ⟨q1, q2⟩ := Hfree.out b hb
           exact ⟨q1, keep b (by rw [alloc_old _ _ _ (lt_blk q2)]; exact q2) (by omega)⟩
         · rw [List.mem_singleton] at hb; subst hb
           exact ⟨by omega, keep _ hnewb (by omega)⟩
       · show (fs ++ [wr.heap.size]).Nodup
         rw [List.nodup_append]
         refine ⟨Hnd.out, by simp, fun x hx y hy e => ?_⟩
         rw [List.mem_singleton] at hy
         subst hy
         have := lt_blk (Hfree.out x hx).2
         omega
     case measure => simp [intOf]; omega
   · have hke : fs.length = n := by omega
     go_wp2
     go_ret
     exact ⟨w.heap.size, v, fs, rfl, ⟨hobj, owns_base hown (Nat.zero_le _), fun b hb => (Hfree.out b hb).2, Hnd.out⟩, hke, hbel, Nat.le_refl _, fun g hg => by have := (hown.lt g hg).1; omega, fun b hb => by have := (Hfree.out b hb).1; omega⟩
end Go.Proofs.Ytlmflighkkgikaa
namespace Go.Proofs.Ytlmflighkkgikaa
open Go.RowKit
def mutT (e : TypeId) : Prop := e = 73 ∨ e = 115 ∨ e = 61 ∨ e = 87 ∨ e = 118 ∨ e = 67
structure Moves (F : Nat → Prop) (w w' : World) : Prop where
 only : Only F w w'
 kept : ∀ e, ¬ mutT e → KeepT e w w'
def grow (F : Nat → Prop) (w : World) (k : Nat) : Prop := F k ∨ w.heap.size ≤ k
theorem Moves.refl (F : Nat → Prop) (w : World) : Moves F w w := ⟨Only.refl _ _, fun _ _ _ _ _ hk => hk⟩
theorem Moves.trans {F : Nat → Prop} {w w' w'' : World} (h : Moves F w w') (h' : Moves (grow F w) w' w'') : Moves F w w'' :=
 ⟨h.only.trans h'.only (fun k hk hf => hf.elim id (fun hle => absurd hk (by omega))), fun e he => (h.kept e he).trans (h'.kept e he)⟩
theorem Moves.mono {F F' : Nat → Prop} {w w' : World} (h : Moves F w w') (hm : ∀ k, k < w.heap.size → F k → F' k) : Moves F' w w' := ⟨h.only.mono hm, h.kept⟩
theorem Moves.of_below {F : Nat → Prop} {w w' : World} (h : Below w.heap.size w w') : Moves F w w' := ⟨Only.of_below h F, fun _ _ => KeepT.of_below h⟩
theorem Moves.size {F : Nat → Prop} {w w' : World} (h : Moves F w w') : w.heap.size ≤ w'.heap.size := h.only.size
theorem Moves.of_only {F G : Nat → Prop} {w w' : World} (h : Only G w w') (hG : ∀ k, G k → F k) (ht : ∀ k cur e fr, G k → w.heap[k]? = some (.cells cur e fr) → mutT e) : Moves F w w' :=
 ⟨h.mono (fun k _ hk => hG k hk), fun e he => h.keep (fun k cur fr hk hh => he (ht k cur e fr hk hh))⟩
theorem grow_mono {F : Nat → Prop} {w w' : World} (h : w.heap.size ≤ w'.heap.size) (k : Nat) (hk : grow (grow F w) w' k) : grow F w k := by
 rcases hk with hk | hk
 · exact hk
 · exact .inr (by omega)
structure Parts where
 X : Nat
 M : Nat
 PL : Nat
 SM : Nat
 vE : Value
 vH : Value
 bL : Nat
 oL : Nat
 cL : Nat
def ilB (B : Key → Option Nat) (il : List (List Nat)) : List Nat := il.map fun p => (B (p, 0)).getD 0
structure LowX (F : Nat → Prop) (ok : Nat → Prop) (w : World) (g : Parts) (c : Cfg) (B : Key → Option Nat) (U : Key → Nat) (V : List Nat → Option Nat) (il : List (List Nat)) (free : List Nat) (vI vF : Value) (N : List Nat → Option (Nat × Nat)) (Mm : List Nat → Option Nat) : Prop where
 obj : ∃ arr : Array Value, w.heap[g.X]? = some (.cells arr 73 (0, 0)) ∧ arr[0]? = some (.int .i64 c.blocks) ∧ arr[1]? = some (.int .i64 c.slots) ∧ arr[2]? = some (.int .i64 c.layers) ∧ arr[5]? = some (.int .i64 c.vocab) ∧
   arr[7]? = some (.pointer (some ⟨g.M, 0, none⟩)) ∧ arr[8]? = some (.pointer (some ⟨g.PL, 0, none⟩)) ∧ arr[12]? = some vI ∧ arr[13]? = some (.map (some g.SM))
 model : ModelT w g.M c g.vE g.vH g.bL g.oL g.cL
 pool : PoolI w g.PL vF free
 tree : TreeI w F N Mm V
 root : N [] = some (g.X, 9)
 smap : ∀ p, N p ≠ none → Mm p ≠ some g.SM
 list : PtrsI w vI (ilB B il)
 ilN : ∀ p ∈ il, B (p, 0) ≠ none
 ilnd : il.Nodup
 blks : BlksI ok w c B U
 freeB : ∀ b ∈ free, ∀ k, B k ≠ some b
 apart : ∀ b, vI.ownBlock = some b → vF.ownBlock ≠ some b
 fX : F g.X
 fP : F g.PL
 fI : ∀ b, vI.ownBlock = some b → F b
 fF : ∀ b, vF.ownBlock = some b → F b
 fB : ∀ k b, B k = some b → F b
 fE : ∀ b ∈ free, F b
 fS : ∀ k b x y z s, B k = some b → w.heap[b]? = some (.cells #[x, y, z] 87 (0, 0)) → x.ownBlock = some s → F s
theorem PtrsI.keep {w w' : World} {v : Value} {ps : List Nat} (h : PtrsI w v ps) (hk : ∀ b, v.ownBlock = some b → w'.heap[b]? = w.heap[b]?) : PtrsI w' v ps := by
 obtain ⟨hl, q | ⟨g, cap, cur, q1, r1, hg, r⟩⟩ := h
 · exact ⟨hl, .inl q⟩
 · exact ⟨hl, .inr ⟨g, cap, cur, q1, r1, by rw [hk g (by rw [q1]; rfl)]; exact hg, r⟩⟩
theorem PtrsI.kind {w : World} {v : Value} {ps : List Nat} (h : PtrsI w v ps) {b : Nat} (hb : v.ownBlock = some b) : ∃ cur, w.heap[b]? = some (.cells cur 61 (0, 0)) := by
 obtain ⟨hl, ⟨q1, _⟩ | ⟨g, cap, cur, q1, r1, hg, r⟩⟩ := h
 · rw [q1] at hb; cases hb
 · rw [q1] at hb
   injection hb with hb
   subst hb
   exact ⟨cur, hg⟩
theorem PoolI.keep {w w' : World} {PL : Nat} {vF : Value} {free : List Nat} (h : PoolI w PL vF free) (h1 : w'.heap[PL]? = w.heap[PL]?) (h2 : ∀ b, vF.ownBlock = some b → w'.heap[b]? = w.heap[b]?) (h3 : ∀ b ∈ free, w'.heap[b]? = w.heap[b]?) : PoolI w' PL vF free :=
 ⟨by rw [h1]; exact h.obj, h.row.keep h2, fun b hb => by rw [h3 b hb]; exact h.blank b hb, h.nodup⟩
theorem SlotsI.keep {base : Nat} {ok : Nat → Prop} {w w' : World} {v : Value} {c : Cfg} {T : List Nat} {f k : Nat} (h : SlotsI base ok w v c T f k) (hs : KeepT 118 w w') (hM : KeepT 113 w w') (hI : KeepT 3 w w') : SlotsI base ok w' v c T f k := by
 obtain ⟨S, ⟨hl, q | ⟨g, cap, cur, q1, r1, hg, r⟩⟩, h2⟩ := h
 · exact ⟨S, ⟨hl, .inl q⟩, fun t ht => ⟨(h2 t ht).1, (h2 t ht).2.keep hM hI⟩⟩
 · exact ⟨S, ⟨hl, .inr ⟨g, cap, cur, q1, r1, hs _ _ _ hg, r⟩⟩, fun t ht => ⟨(h2 t ht).1, (h2 t ht).2.keep hM hI⟩⟩
theorem BlksI.keep {ok : Nat → Prop} {w w' : World} {c : Cfg} {B : Key → Option Nat} {U : Key → Nat} (h : BlksI ok w c B U) (hb : ∀ k b, B k = some b → w'.heap[b]? = w.heap[b]?) (hs : KeepT 118 w w') (hM : KeepT 113 w w') (hI : KeepT 3 w w') : BlksI ok w' c B U :=
 ⟨fun k b hk => by
   obtain ⟨v, h1, h2⟩ := h.at' k b hk
   exact ⟨v, by rw [hb k b hk]; exact h1, h2.keep hs hM hI⟩, h.ne, h.ahead, h.inj⟩
section
variable {F ok : Nat → Prop} {w w' : World} {g : Parts} {c : Cfg} {B : Key → Option Nat} {U : Key → Nat} {V : List Nat → Option Nat} {il : List (List Nat)} {free : List Nat} {vI vF : Value} {N : List Nat → Option (Nat × Nat)} {Mm : List Nat → Option Nat}
theorem LowX.blk (h : LowX F ok w g c B U V il free vI vF N Mm) {k : Key} {b : Nat} (hb : B k = some b) : ∃ x, w.heap[b]? = some (.cells #[x, blkV (B (pred c.slots k)), .int .i64 (U k)] 87 (0, 0)) ∧ SlotsI 0 ok w x c k.1 (pred c.slots k).1.length (k.1.length - (pred c.slots k).1.length) := h.blks.at' k b hb
theorem LowX.ilptr (h : LowX F ok w g c B U V il free vI vF N Mm) {x : Nat} (hx : x ∈ ilB B il) : ∃ p ∈ il, B (p, 0) = some x := by
 obtain ⟨p, hp, rfl⟩ := List.mem_map.1 hx
 refine ⟨p, hp, ?_⟩
 cases hB : B (p, 0) with
 | none => exact absurd hB (h.ilN p hp)
 | some b => rfl
theorem LowX.ilptrs_nd (h : LowX F ok w g c B U V il free vI vF N Mm) : (ilB B il).Nodup := by
 have hh := h.ilnd
 have hN := h.ilN
 have hj := h.blks.inj
 clear h
 induction il with
 | nil => simp [ilB]
 | cons p il ih =>
   rw [List.nodup_cons] at hh
   show ((B (p, 0)).getD 0 :: ilB B il).Nodup
   rw [List.nodup_cons]
   refine ⟨fun hm => ?_, ih hh.2 (fun q hq => hN q (by simp [hq]))⟩
   obtain ⟨q, hq, e⟩ := List.mem_map.1 hm
   have hp1 := hN p (by simp)
   have hq1 := hN q (by simp [hq])
   cases hB : B (p, 0) with
   | none => exact hp1 hB
   | some b =>
     cases hQ : B (q, 0) with
     | none => exact hq1 hQ
     | some b' =>
       simp only [hB, hQ, Option.getD_some] at e
       rw [e] at hQ
       have := hj _ _ _ hB hQ
       injection this with this
       exact hh.1 (by rw [this]; exact hq)
theorem LowX.ty_ne {k k' : Nat} {a a' : Array Value} {e e' : TypeId} {fr fr' : Nat × Nat} (h : w.heap[k]? = some (.cells a e fr)) (h' : w.heap[k']? = some (.cells a' e' fr')) (hne : e ≠ e') : k ≠ k' := fun ek => by
 rw [ek, h'] at h
 injection h with h
 injection h with _ h _
 exact hne h.symm
theorem TreeI.mapne {k mb n : Nat} {a : Array Value} {e : TypeId} {fr : Nat × Nat} {M : Int → Option Value} (h : w.heap[k]? = some (.cells a e fr)) (h' : MapV Try.prog 3 w mb n M) : k ≠ mb := fun ek => by
 obtain ⟨es, cl, ho⟩ := h'.obj
 rw [ek, ho] at h
 cases h
theorem LowX.setU (h : LowX F ok w g c B U V il free vI vF N Mm) (k : Key) (b n : Nat) (hb : B k = some b) :
   LowX F ok (w.setCell ⟨b, 2, none⟩ (.int .i64 n)) g c B (fun j => if j = k then n else U j) V il free vI vF N Mm ∧ Moves F w (w.setCell ⟨b, 2, none⟩ (.int .i64 n)) := by
 obtain ⟨x, hx, hxs⟩ := h.blk hb
 obtain ⟨arr, o0, o⟩ := h.obj
 have far : ∀ {k' : Nat} {a : Array Value} {e : TypeId} {fr : Nat × Nat}, w.heap[k']? = some (.cells a e fr) → e ≠ 87 → (w.setCell ⟨b, 2, none⟩ (.int .i64 n)).heap[k']? = w.heap[k']? := fun hk he => setCell_far _ _ _ _ _ (LowX.ty_ne hk hx he)
 have kk : ∀ e, e ≠ 87 → KeepT e w (w.setCell ⟨b, 2, none⟩ (.int .i64 n)) := fun e he => KeepT.setCell hx he _
 have nb : (w.setCell ⟨b, 2, none⟩ (.int .i64 n)).heap[b]? = some (.cells #[x, blkV (B (pred c.slots k)), .int .i64 n] 87 (0, 0)) := by rw [setCell_blk hx]; rfl
 refine ⟨⟨⟨arr, by rw [far o0 (by decide)]; exact o0, o⟩, h.model.keep (kk _ (by decide)) (kk _ (by decide)) (kk _ (by decide)) (kk _ (by decide)), h.pool.keep (far h.pool.obj (by decide)) (fun b' hb' => ?_) (fun b' hb' => setCell_far _ _ _ _ _ (fun e => h.freeB b' hb' k (by rw [e]; exact hb))), h.tree.keepT (fun p a hp => ?_) (fun p mb hp hm => setCell_far _ _ _ _ _ (TreeI.mapne hx (h.tree.kids p mb hp hm)).symm), h.root, h.smap, h.list.keep (fun b' hb' => ?_), h.ilN, h.ilnd, ⟨fun j b' hj => ?_, h.blks.ne, h.blks.ahead, h.blks.inj⟩, h.freeB, h.apart, h.fX, h.fP, h.fI, h.fF, h.fB, h.fE, fun j b' x' y' z' s hj hh hs => ?_⟩, ⟨(Only.refl _ _).setCell (fun _ => h.fB k b hb) _, fun e he => kk e (fun e' => he (by rw [e']; exact .inr (.inr (.inr (.inl rfl)))))⟩⟩
 · obtain ⟨cur, hc⟩ := h.pool.row.kind hb'
   exact far hc (by decide)
 · obtain ⟨a', ty, n0, _⟩ := h.tree.node p a hp
   have := h.tree.kind p a a' ty _ hp n0
   refine far n0 (fun e => ?_)
   rw [e] at this
   rcases this with e | e <;> exact absurd e (by decide)
 · obtain ⟨cur, hc⟩ := h.list.kind hb'
   exact far hc (by decide)
 · by_cases e : j = k
   · subst e
     rw [hb] at hj
     injection hj with hj
     subst hj
     exact ⟨x, by simp only [if_true]; exact nb, hxs.keep (kk _ (by decide)) (kk _ (by decide)) (kk _ (by decide))⟩
   · obtain ⟨x', hx', hxs'⟩ := h.blks.at' j b' hj
     have hne : b' ≠ b := fun eb => e (h.blks.inj j k b (by rw [← eb]; exact hj) hb)
     exact ⟨x', by simp only [if_neg e]; rw [setCell_far _ _ _ _ _ hne]; exact hx', hxs'.keep (kk _ (by decide)) (kk _ (by decide)) (kk _ (by decide))⟩
 · by_cases e : b' = b
   · subst e
     rw [nb] at hh
     injection hh with hh
     injection hh with hh _ _
     have : x = x' := by
       have := congrArg (fun a => a[0]?) hh
       simpa using this
     subst this
     exact h.fS k b' x _ _ s hb hx hs
   · rw [setCell_far _ _ _ _ _ e] at hh
     exact h.fS j b' x' y' z' s hj hh hs
end
theorem TreeI.keepN {w w' : World} {F : Nat → Prop} {N : List Nat → Option (Nat × Nat)} {M : List Nat → Option Nat} {V : List Nat → Option Nat} (h : TreeI w F N M V)
   (h1 : ∀ p a (arr : Array Value) ty, N p = some a → w.heap[a.1]? = some (.cells arr ty (0, 0)) → ∃ arr' : Array Value, w'.heap[a.1]? = some (.cells arr' ty (0, 0)) ∧ arr'[a.2]? = arr[a.2]? ∧ arr'[a.2 + 1]? = arr[a.2 + 1]? ∧ arr'[a.2 + 2]? = arr[a.2 + 2]?)
   (h2 : ∀ p b, N p ≠ none → M p = some b → w'.heap[b]? = w.heap[b]?) : TreeI w' F N M V :=
 ⟨h.root, fun p a hp => by
   obtain ⟨arr, ty, n0, n1, n2, n3⟩ := h.node p a hp
   obtain ⟨arr', m0, m1, m2, m3⟩ := h1 p a arr ty hp n0
   exact ⟨arr', ty, m0, by rw [m1]; exact n1, by rw [m2]; exact n2, by rw [m3]; exact n3⟩, h.bare, fun p b hp hm => (h.kids p b hp hm).keep (h2 p b hp hm), h.pre, h.inj, h.minj, h.told, h.foot, h.mfoot, fun p a arr ty fr hp ha => by
   obtain ⟨arr0, ty0, n0, _⟩ := h.node p a hp
   obtain ⟨arr', m0, _⟩ := h1 p a arr0 ty0 hp n0
   rw [m0] at ha
   injection ha with ha
   injection ha with _ ha _
   rw [← ha]
   exact h.kind p a arr0 ty0 _ hp n0, h.low⟩
def TFoot (N : List Nat → Option (Nat × Nat)) (Mm : List Nat → Option Nat) (k : Nat) : Prop := (∃ p a, N p = some a ∧ k = a.1) ∨ ∃ p, N p ≠ none ∧ Mm p = some k
theorem TreeI.exact {w : World} {F : Nat → Prop} {N : List Nat → Option (Nat × Nat)} {M : List Nat → Option Nat} {V : List Nat → Option Nat} (h : TreeI w F N M V) : TreeI w (TFoot N M) N M V :=
 ⟨h.root, h.node, h.bare, h.kids, h.pre, h.inj, h.minj, h.told, fun p a hp => .inl ⟨p, a, hp, rfl⟩, fun p _b hp hm => .inr ⟨p, hp, hm⟩, h.kind, h.low⟩
section
variable {F ok : Nat → Prop} {w w' : World} {g : Parts} {c : Cfg} {B : Key → Option Nat} {U : Key → Nat} {V : List Nat → Option Nat} {il : List (List Nat)} {free : List Nat} {vI vF : Value} {N : List Nat → Option (Nat × Nat)} {Mm : List Nat → Option Nat}
theorem set_get {arr : Array Value} {i j : Nat} {v : Value} (h : i ≠ j) : (arr.setIfInBounds i v)[j]? = arr[j]? := Array.getElem?_setIfInBounds_ne h
theorem own_lt {v : Value} {ps : List Nat} (h : PtrsI w v ps) {b : Nat} (hb : v.ownBlock = some b) : b < w.heap.size := by
 obtain ⟨cur, hc⟩ := h.kind hb
 exact lt_blk hc
theorem LowX.relist (h : LowX F ok w g c B U V il free vI vF N Mm) (il' : List (List Nat)) (v' : Value) (hX : ∀ arr, w.heap[g.X]? = some (.cells arr 73 (0, 0)) → w'.heap[g.X]? = some (.cells (arr.setIfInBounds 12 v') 73 (0, 0)))
   (hP : PtrsI w' v' (ilB B il')) (hO : Only (fun k => k = g.X ∨ vI.ownBlock = some k) w w') (hown : v'.ownBlock = vI.ownBlock ∨ ∃ s, v'.ownBlock = some s ∧ w.heap.size ≤ s) (hN' : ∀ p ∈ il', B (p, 0) ≠ none) (hnd : il'.Nodup) :
   LowX (grow F w) ok w' g c B U V il' free v' vF N Mm ∧ Moves F w w' := by
 obtain ⟨arr, o0, o1, o2, o3, o4, o5, o6, o7, o8⟩ := h.obj
 have hX' := hX arr o0
 have l12 := (Array.getElem?_eq_some_iff.1 o7).1
 have tys : ∀ k cur e fr, (k = g.X ∨ vI.ownBlock = some k) → w.heap[k]? = some (.cells cur e fr) → e = 73 ∨ e = 61 := by
   rintro k cur e fr (rfl | hk) hh
   · rw [o0] at hh; injection hh with hh; injection hh with _ hh _; exact .inl hh.symm
   · obtain ⟨cur', hc⟩ := h.list.kind hk
     rw [hc] at hh; injection hh with hh; injection hh with _ hh _; exact .inr hh.symm
 have far : ∀ {k : Nat} {a : Array Value} {e : TypeId} {fr : Nat × Nat}, w.heap[k]? = some (.cells a e fr) → e ≠ 73 → e ≠ 61 → w'.heap[k]? = w.heap[k]? := fun {k a e fr} hk h1 h2 => hO.block _ (lt_blk hk) (fun hf => (tys k a e fr hf hk).elim h1 h2)
 have kk : ∀ e, e ≠ 73 → e ≠ 61 → KeepT e w w' := fun e h1 h2 => hO.keep (fun k cur fr hf hh => (tys k cur e fr hf hh).elim h1 h2)
 have mfar : ∀ {mb n : Nat} {M : Int → Option Value}, MapV Try.prog 3 w mb n M → w'.heap[mb]? = w.heap[mb]? := fun hv => hO.block _ hv.lt (fun hf => by
   rcases hf with rfl | hf
   · exact TreeI.mapne o0 hv rfl
   · obtain ⟨cur, hc⟩ := h.list.kind hf
     exact TreeI.mapne hc hv rfl)
 refine ⟨⟨⟨arr.setIfInBounds 12 v', hX', by rw [set_get (by decide)]; exact o1, by rw [set_get (by decide)]; exact o2, by rw [set_get (by decide)]; exact o3, by rw [set_get (by decide)]; exact o4, by rw [set_get (by decide)]; exact o5, by rw [set_get (by decide)]; exact o6, by simp [l12], by rw [set_get (by decide)]; exact o8⟩,
   h.model.keep (kk _ (by decide) (by decide)) (kk _ (by decide) (by decide)) (kk _ (by decide) (by decide)) (kk _ (by decide) (by decide)),
   h.pool.keep (far h.pool.obj (by decide) (by decide)) (fun b hb => hO.block _ (own_lt h.pool.row hb) (fun hf => ?_)) (fun b hb => far (h.pool.blank b hb) (by decide) (by decide)),
   (h.tree.keepN (fun p a arr2 ty hp ha => ?_) (fun p mb hp hm => mfar (h.tree.kids p mb hp hm))).mono (fun k hk => .inl hk), h.root, h.smap, hP, hN', hnd,
   h.blks.keep (fun k b hk => ?_) (kk _ (by decide) (by decide)) (kk _ (by decide) (by decide)) (kk _ (by decide) (by decide)), h.freeB, fun b hb hb' => ?_, .inl h.fX, .inl h.fP, fun b hb => ?_, fun b hb => .inl (h.fF b hb), fun k b hk => .inl (h.fB k b hk), fun b hb => .inl (h.fE b hb), fun k b x y z s hk hh hs => ?_⟩, Moves.of_only hO (fun k hk => ?_) (fun k cur e fr hk hh => ?_)⟩
 · rcases hf with rfl | hf
   · obtain ⟨cur, hc⟩ := h.pool.row.kind hb
     exact LowX.ty_ne hc o0 (by decide) rfl
   · exact h.apart b hf hb
 · by_cases e : p = []
   · subst e
     rw [h.root] at hp
     injection hp with hp
     subst hp
     simp only [] at ha ⊢
     rw [o0] at ha
     injection ha with ha
     injection ha with ha1 ha2 _
     subst ha1 ha2
     exact ⟨_, hX', set_get (by decide), set_get (by decide), set_get (by decide)⟩
   · have hk := h.tree.kind p a arr2 ty _ hp ha
     have hne : a.1 ≠ g.X := fun e' => e (h.tree.inj p [] a (g.X, 9) hp h.root e')
     refine ⟨arr2, ?_, rfl, rfl, rfl⟩
     rw [hO.block a.1 (lt_blk ha) (fun hf => ?_)]
     · exact ha
     · rcases hf with hf | hf
       · exact hne hf
       · obtain ⟨cur, hc⟩ := h.list.kind hf
         rw [hc] at ha; injection ha with ha; injection ha with _ ha _
         rw [← ha] at hk
         rcases hk with e1 | e1 <;> exact absurd e1 (by decide)
 · obtain ⟨x, hx, _⟩ := h.blks.at' k b hk
   exact far hx (by decide) (by decide)
 · rcases hown with e | ⟨s, e, hs⟩
   · exact h.apart b (by rw [← e]; exact hb) hb'
   · rw [e] at hb
     injection hb with hb
     have := own_lt h.pool.row hb'
     omega
 · rcases hown with e | ⟨s, e, hs⟩
   · exact .inl (h.fI b (by rw [← e]; exact hb))
   · rw [e] at hb
     injection hb with hb
     exact .inr (by omega)
 · obtain ⟨x', hx', _⟩ := h.blks.at' k b hk
   rw [far hx' (by decide) (by decide)] at hh
   exact .inl (h.fS k b x y z s hk hh hs)
 · rcases hk with rfl | hk
   · exact h.fX
   · exact h.fI k hk
 · rcases tys k cur e fr hk hh with rfl | rfl
   · exact .inl rfl
   · exact .inr (.inr (.inl rfl))
theorem LowX.regive (h : LowX F ok w g c B U V il free vI vF N Mm) (k : Key) (b : Nat) (v' : Value) (hk : B k = some b) (hP : PoolI w' g.PL v' (free ++ [b])) (hO : Only (fun j => j = g.PL ∨ j = b ∨ vF.ownBlock = some j) w w') (hown : v'.ownBlock = vF.ownBlock ∨ ∃ s, v'.ownBlock = some s ∧ w.heap.size ≤ s)
   (hil : ∀ p ∈ il, (p, 0) ≠ k) (hback : ∀ j, B j ≠ none → pred c.slots j ≠ k) :
   LowX (grow F w) ok w' g c (fun j => if j = k then none else B j) U V il (free ++ [b]) vI v' N Mm ∧ Moves F w w' := by
 obtain ⟨arr, o0, o⟩ := h.obj
 obtain ⟨xb, hxb, _⟩ := h.blks.at' k b hk
 have tys : ∀ j cur e fr, (j = g.PL ∨ j = b ∨ vF.ownBlock = some j) → w.heap[j]? = some (.cells cur e fr) → e = 115 ∨ e = 87 ∨ e = 61 := by
   rintro j cur e fr (rfl | rfl | hj) hh
   · rw [h.pool.obj] at hh; injection hh with hh; injection hh with _ hh _; exact .inl hh.symm
   · rw [hxb] at hh; injection hh with hh; injection hh with _ hh _; exact .inr (.inl hh.symm)
   · obtain ⟨cur', hc⟩ := h.pool.row.kind hj
     rw [hc] at hh; injection hh with hh; injection hh with _ hh _; exact .inr (.inr hh.symm)
 have far : ∀ {j : Nat} {a : Array Value} {e : TypeId} {fr : Nat × Nat}, w.heap[j]? = some (.cells a e fr) → e ≠ 115 → e ≠ 87 → e ≠ 61 → w'.heap[j]? = w.heap[j]? := fun {j a e fr} hj h1 h2 h3 => hO.block _ (lt_blk hj) (fun hf => (tys j a e fr hf hj).elim h1 (fun q => q.elim h2 h3))
 have kk : ∀ e, e ≠ 115 → e ≠ 87 → e ≠ 61 → KeepT e w w' := fun e h1 h2 h3 => hO.keep (fun j cur fr hf hh => (tys j cur e fr hf hh).elim h1 (fun q => q.elim h2 h3))
 have mfar : ∀ {mb n : Nat} {M : Int → Option Value}, MapV Try.prog 3 w mb n M → w'.heap[mb]? = w.heap[mb]? := fun hv => hO.block _ hv.lt (fun hf => by
   rcases hf with rfl | rfl | hf
   · exact TreeI.mapne h.pool.obj hv rfl
   · exact TreeI.mapne hxb hv rfl
   · obtain ⟨cur, hc⟩ := h.pool.row.kind hf
     exact TreeI.mapne hc hv rfl)
 have keepb : ∀ j b', B j = some b' → j ≠ k → w'.heap[b']? = w.heap[b']? := fun j b' hj hne => by
   obtain ⟨x, hx, _⟩ := h.blks.at' j b' hj
   refine hO.block _ (lt_blk hx) (fun hf => ?_)
   rcases hf with hf | hf | hf
   · exact LowX.ty_ne hx h.pool.obj (by decide) hf
   · exact hne (h.blks.inj j k b (by rw [← hf]; exact hj) hk)
   · obtain ⟨cur, hc⟩ := h.pool.row.kind hf
     exact LowX.ty_ne hx hc (by decide) rfl
 have sub : ∀ j b', (if j = k then none else B j) = some b' → B j = some b' ∧ j ≠ k := fun j b' hj => by
   by_cases e : j = k
   · simp [e] at hj
   · rw [if_neg e] at hj; exact ⟨hj, e⟩
 have subn : ∀ j, (if j = k then none else B j) ≠ none → B j ≠ none ∧ j ≠ k := fun j hj => by
   by_cases e : j = k
   · simp [e] at hj
   · rw [if_neg e] at hj; exact ⟨hj, e⟩
 have hilB : ilB (fun j => if j = k then none else B j) il = ilB B il := by
   unfold ilB
   apply List.map_congr_left
   intro p hp
   dsimp only
   rw [if_neg (hil p hp)]
 have hlist : PtrsI w' vI (ilB (fun j => if j = k then none else B j) il) := by
   rw [hilB]
   refine h.list.keep (fun b' hb' => hO.block _ (own_lt h.list hb') (fun hf => ?_))
   obtain ⟨cur, hc⟩ := h.list.kind hb'
   rcases hf with hf | hf | hf
   · exact LowX.ty_ne hc h.pool.obj (by decide) hf
   · exact LowX.ty_ne hc hxb (by decide) hf
   · exact h.apart b' hb' hf
 refine ⟨⟨⟨arr, by rw [far o0 (by decide) (by decide) (by decide)]; exact o0, o⟩, h.model.keep (kk _ (by decide) (by decide) (by decide)) (kk _ (by decide) (by decide) (by decide)) (kk _ (by decide) (by decide) (by decide)) (kk _ (by decide) (by decide) (by decide)), hP,
   (h.tree.keepT (fun p a hp => ?_) (fun p mb hp hm => mfar (h.tree.kids p mb hp hm))).mono (fun k hk => .inl hk), h.root, h.smap, hlist, fun p hp => by rw [if_neg (hil p hp)]; exact h.ilN p hp, h.ilnd,
   ⟨fun j b' hj => ?_, fun j hj => h.blks.ne j (subn j hj).1, fun j hj hp => ?_, fun j j' b' hj hj' => h.blks.inj j j' b' (sub j b' hj).1 (sub j' b' hj').1⟩, fun b' hb' j hj => ?_, fun b' hb' hb'' => ?_, .inl h.fX, .inl h.fP, fun b' hb' => .inl (h.fI b' hb'), fun b' hb' => ?_, fun j b' hj => .inl (h.fB j b' (sub j b' hj).1), fun b' hb' => ?_, fun j b' x y z s hj hh hs => ?_⟩, Moves.of_only hO (fun j hj => ?_) (fun j cur e fr hj hh => ?_)⟩
 · obtain ⟨a', ty, n0, _⟩ := h.tree.node p a hp
   have := h.tree.kind p a a' ty _ hp n0
   refine far n0 (fun e => ?_) (fun e => ?_) (fun e => ?_) <;> (rw [e] at this; rcases this with e | e <;> exact absurd e (by decide))
 · obtain ⟨hj1, hj2⟩ := sub j b' hj
   obtain ⟨x, hx, hxs⟩ := h.blks.at' j b' hj1
   refine ⟨x, ?_, hxs.keep (kk _ (by decide) (by decide) (by decide)) (kk _ (by decide) (by decide) (by decide)) (kk _ (by decide) (by decide) (by decide))⟩
   dsimp only
   rw [keepb j b' hj1 hj2, if_neg (hback j (by rw [hj1]; simp))]
   exact hx
 · obtain ⟨hj1, hj2⟩ := subn j hj
   rw [if_neg (hback j hj1)]
   exact h.blks.ahead j hj1 hp
 · obtain ⟨hj1, hj2⟩ := sub j b' hj
   rcases List.mem_append.1 hb' with hb' | hb'
   · exact h.freeB b' hb' j hj1
   · rw [List.mem_singleton] at hb'
     exact hj2 (h.blks.inj j k b (by rw [← hb']; exact hj1) hk)
 · rcases hown with e | ⟨s, e, hs⟩
   · exact h.apart b' hb' (by rw [← e]; exact hb'')
   · rw [e] at hb''
     injection hb'' with hb''
     have := own_lt h.list hb'
     omega
 · rcases hown with e | ⟨s, e, hs⟩
   · exact .inl (h.fF b' (by rw [← e]; exact hb'))
   · rw [e] at hb'
     injection hb' with hb'
     exact .inr (by omega)
 · rcases List.mem_append.1 hb' with hb' | hb'
   · exact .inl (h.fE b' hb')
   · rw [List.mem_singleton] at hb'
     exact .inl (h.fB k b' (by rw [hb']; exact hk))
 · obtain ⟨hj1, hj2⟩ := sub j b' hj
   rw [keepb j b' hj1 hj2] at hh
   exact .inl (h.fS j b' x y z s hj1 hh hs)
 · rcases hj with rfl | rfl | hj
   · exact h.fP
   · exact h.fB k _ hk
   · exact h.fF j hj
 · rcases tys j cur e fr hj hh with rfl | rfl | rfl
   · exact .inr (.inl rfl)
   · exact .inr (.inr (.inr (.inl rfl)))
   · exact .inr (.inr (.inl rfl))
theorem LowX.retree (h : LowX F ok w g c B U V il free vI vF N Mm) {N' : List Nat → Option (Nat × Nat)} {Mm' V' : List Nat → Option Nat} (hT : TreeI w' (fun k => TFoot N Mm k ∨ w.heap.size ≤ k) N' Mm' V') (hO : Only (TFoot N Mm) w w') (hout : NodeOut N w w') (hr : N' [] = some (g.X, 9)) (hsm : ∀ p, N' p ≠ none → Mm' p ≠ some g.SM) :
   LowX (grow F w) ok w' g c B U V' il free vI vF N' Mm' ∧ Moves F w w' := by
 obtain ⟨arr, o0, o1, o2, o3, o4, o5, o6, o7, o8⟩ := h.obj
 obtain ⟨arr', p0, psz, p1⟩ := hout [] (g.X, 9) arr 73 h.root o0
 simp only [] at p0 p1
 have tys : ∀ k cur e fr, TFoot N Mm k → w.heap[k]? = some (.cells cur e fr) → e = 73 ∨ e = 67 := by
   rintro k cur e fr (⟨p, a, hp, rfl⟩ | ⟨p, hp, hm⟩) hh
   · exact h.tree.kind p a cur e fr hp hh
   · exact absurd rfl (TreeI.mapne hh (h.tree.kids p k hp hm))
 have far : ∀ {k : Nat} {a : Array Value} {e : TypeId} {fr : Nat × Nat}, w.heap[k]? = some (.cells a e fr) → e ≠ 73 → e ≠ 67 → w'.heap[k]? = w.heap[k]? := fun {k a e fr} hk h1 h2 => hO.block _ (lt_blk hk) (fun hf => (tys k a e fr hf hk).elim h1 h2)
 have kk : ∀ e, e ≠ 73 → e ≠ 67 → KeepT e w w' := fun e h1 h2 => hO.keep (fun k cur fr hf hh => (tys k cur e fr hf hh).elim h1 h2)
 have foot : ∀ k, TFoot N Mm k → F k := by
   rintro k (⟨p, a, hp, rfl⟩ | ⟨p, hp, hm⟩)
   · exact h.tree.foot p a hp
   · exact h.tree.mfoot p k hp hm
 refine ⟨⟨⟨arr', p0, by rw [p1 0 (by omega)]; exact o1, by rw [p1 1 (by omega)]; exact o2, by rw [p1 2 (by omega)]; exact o3, by rw [p1 5 (by omega)]; exact o4, by rw [p1 7 (by omega)]; exact o5, by rw [p1 8 (by omega)]; exact o6, by rw [p1 12 (by omega)]; exact o7, by rw [p1 13 (by omega)]; exact o8⟩,
   h.model.keep (kk _ (by decide) (by decide)) (kk _ (by decide) (by decide)) (kk _ (by decide) (by decide)) (kk _ (by decide) (by decide)),
   h.pool.keep (far h.pool.obj (by decide) (by decide)) (fun b hb => ?_) (fun b hb => far (h.pool.blank b hb) (by decide) (by decide)),
   hT.mono (fun k hk => hk.imp (foot k) id), hr, hsm, h.list.keep (fun b hb => ?_), h.ilN, h.ilnd, h.blks.keep (fun k b hk => ?_) (kk _ (by decide) (by decide)) (kk _ (by decide) (by decide)) (kk _ (by decide) (by decide)), h.freeB, h.apart, .inl h.fX, .inl h.fP, fun b hb => .inl (h.fI b hb), fun b hb => .inl (h.fF b hb), fun k b hk => .inl (h.fB k b hk), fun b hb => .inl (h.fE b hb), fun k b x y z s hk hh hs => ?_⟩, Moves.of_only hO foot (fun k cur e fr hk hh => ?_)⟩
 · obtain ⟨cur, hc⟩ := h.pool.row.kind hb
   exact far hc (by decide) (by decide)
 · obtain ⟨cur, hc⟩ := h.list.kind hb
   exact far hc (by decide) (by decide)
 · obtain ⟨x, hx, _⟩ := h.blks.at' k b hk
   exact far hx (by decide) (by decide)
 · obtain ⟨x', hx', _⟩ := h.blks.at' k b hk
   rw [far hx' (by decide) (by decide)] at hh
   exact .inl (h.fS k b x y z s hk hh hs)
 · rcases tys k cur e fr hk hh with rfl | rfl
   · exact .inl rfl
   · exact .inr (.inr (.inr (.inr (.inr rfl))))
theorem LowX.below (h : LowX F ok w g c B U V il free vI vF N Mm) (hb : Below w.heap.size w w') : LowX F ok w' g c B U V il free vI vF N Mm := by
 obtain ⟨arr, o0, o⟩ := h.obj
 have far : ∀ {k : Nat} {o : Obj}, w.heap[k]? = some o → w'.heap[k]? = w.heap[k]? := fun hk => hb.block _ (lt_blk hk)
 refine ⟨⟨arr, by rw [far o0]; exact o0, o⟩, h.model.keep (KeepT.of_below hb) (KeepT.of_below hb) (KeepT.of_below hb) (KeepT.of_below hb), h.pool.keep (far h.pool.obj) (fun b hb' => hb.block _ (own_lt h.pool.row hb')) (fun b hb' => far (h.pool.blank b hb')), h.tree.keepT (fun p a hp => ?_) (fun p mb hp hm => hb.block _ (h.tree.kids p mb hp hm).lt), h.root, h.smap, h.list.keep (fun b hb' => hb.block _ (own_lt h.list hb')), h.ilN, h.ilnd, h.blks.below hb, h.freeB, h.apart, h.fX, h.fP, h.fI, h.fF, h.fB, h.fE, fun k b x y z s hk hh hs => ?_⟩
 · obtain ⟨a', ty, n0, _⟩ := h.tree.node p a hp
   exact far n0
 · obtain ⟨x', hx', _⟩ := h.blks.at' k b hk
   rw [far hx'] at hh
   exact h.fS k b x y z s hk hh hs
theorem LowX.mono {F' : Nat → Prop} (h : LowX F ok w g c B U V il free vI vF N Mm) (hm : ∀ k, F k → F' k) : LowX F' ok w g c B U V il free vI vF N Mm :=
 ⟨h.obj, h.model, h.pool, h.tree.mono hm, h.root, h.smap, h.list, h.ilN, h.ilnd, h.blks, h.freeB, h.apart, hm _ h.fX, hm _ h.fP, fun b hb => hm _ (h.fI b hb), fun b hb => hm _ (h.fF b hb), fun k b hk => hm _ (h.fB k b hk), fun b hb => hm _ (h.fE b hb), fun k b x y z s hk hh hs => hm _ (h.fS k b x y z s hk hh hs)⟩
end
end Go.Proofs.Ytlmflighkkgikaa
namespace Go.Proofs.Ytlmflighkkgikaa
open Go.RowKit
attribute [local go_sem ↓] Go.wp_at_zero Go.wp_at_succ
open Classical in
noncomputable def keyLen (B : Key → Option Nat) (v : Value) : Nat := if h : ∃ j, B j ≠ none ∧ blkV (B j) = v then (Classical.choose h).1.length + 1 else 0
theorem blkV_inj {a b : Option Nat} (h : blkV a = blkV b) : a = b := by
 cases a <;> cases b <;> simp [blkV] at h ⊢
 exact h
theorem some_of_ne {α : Type} {o : Option α} (h : o ≠ none) : ∃ b, o = some b := by
 cases o with
 | none => exact absurd rfl h
 | some b => exact ⟨b, rfl⟩
theorem none_or {α : Type} (o : Option α) : o = none ∨ ∃ b, o = some b := by cases o <;> simp
open Classical in
theorem keyLen_some {B : Key → Option Nat} (hj : ∀ k k' b, B k = some b → B k' = some b → k = k') {k : Key} (hk : B k ≠ none) : keyLen B (blkV (B k)) = k.1.length + 1 := by
 unfold keyLen
 have h : ∃ j, B j ≠ none ∧ blkV (B j) = blkV (B k) := ⟨k, hk, rfl⟩
 rw [dif_pos h]
 obtain ⟨h1, h2⟩ := Classical.choose_spec h
 have e := blkV_inj h2
 obtain ⟨b, hB⟩ := some_of_ne hk
 rw [hj _ k b (e.trans hB) hB]
open Classical in
theorem keyLen_none {B : Key → Option Nat} {k : Key} (hk : B k = none) : keyLen B (blkV (B k)) = 0 := by
 unfold keyLen
 rw [dif_neg]
 rintro ⟨j, h1, h2⟩
 exact h1 ((blkV_inj h2).trans hk)
section
variable {F ok : Nat → Prop} {w w' : World} {g : Parts} {c : Cfg} {B : Key → Option Nat} {U : Key → Nat} {V : List Nat → Option Nat} {il : List (List Nat)} {free : List Nat} {vI vF : Value} {N : List Nat → Option (Nat × Nat)} {Mm : List Nat → Option Nat}
theorem LowX.il_erase (h : LowX F ok w g c B U V il free vI vF N Mm) {j : Key} {b : Nat} (hb : B j = some b) : (ilB B il).erase b = ilB B (il.filter (fun p => decide ((p, 0) ≠ j))) := by
 rw [h.ilptrs_nd.erase_eq_filter]
 unfold ilB
 rw [List.filter_map]
 congr 1
 apply List.filter_congr
 intro p hp
 have hN := h.ilN p hp
 cases hB : B (p, 0) with
 | none => exact absurd hB hN
 | some b' =>
   simp only [Function.comp, hB, Option.getD_some]
   by_cases e : (p, 0) = j
   · rw [e, hb] at hB
     injection hB with hB
     simp [e, hB]
   · have : b' ≠ b := fun eb => e (h.blks.inj _ _ b (by rw [hB, eb]) hb)
     simp [e, this]
theorem LowX.remove_any (h : LowX F ok w g c B U V il free vI vF N Mm) (j : Key) (b : Nat) (hb : B j = some b) (hl : il.length ≤ 1000) :
   Calls Try.prog 60 #[.pointer (some ⟨g.X, 12, none⟩), blkV (some b)] w fun e w' =>
     e = .returned (.tuple #[]) ∧ ∃ vI', LowX (grow F w) ok w' g c B U V (il.filter (fun p => decide ((p, 0) ≠ j))) free vI' vF N Mm ∧ Moves F w w' := by
 obtain ⟨arr, o0, o1, o2, o3, o4, o5, o6, o7, o8⟩ := h.obj
 obtain ⟨x, hx, _⟩ := h.blk hb
 refine (listremove_any g.X 12 b vI (ilB B il) arr _ w o0 (by decide) o7 h.list (by unfold ilB; simpa using hl) h.ilptrs_nd (fun y hy => ?_)).mono ?_
 · rcases hy with rfl | hy
   · exact ⟨_, hx⟩
   · obtain ⟨p, _, hp⟩ := h.ilptr hy
     obtain ⟨x', hx', _⟩ := h.blk hp
     exact ⟨_, hx'⟩
 · rintro e w' ⟨rfl, v', h1, h2, h3, h4⟩
   rw [h.il_erase hb] at h2
   obtain ⟨q1, q2⟩ := h.relist (il.filter (fun p => decide ((p, 0) ≠ j))) v' (fun arr' ha => by rw [o0] at ha; injection ha with ha; injection ha with ha _ _; rw [← ha]; exact h1) h2 h3 (.inl h4) (fun p hp => h.ilN p (List.mem_filter.1 hp).1) (h.ilnd.filter _)
   exact ⟨rfl, v', q1, q2⟩
end
theorem on_pred_sub (s : Nat) (j x : Key) (hs : 1 ≤ s) (hj : keyOk s j) (h : on s (pred s j) x) : on s j x := (on_step s j x hs hj).2 (.inr h)
set_option maxRecDepth 100000 in
set_option maxHeartbeats 2000000 in
theorem use_low (F ok : Nat → Prop) (g : Parts) (c : Cfg) (hc : c.ok) (B : Key → Option Nat) (U : Key → Nat) (V : List Nat → Option Nat) (il : List (List Nat)) (free : List Nat) (vI vF : Value) (N : List Nat → Option (Nat × Nat)) (Mm : List Nat → Option Nat) (k : Key) (w : World)
   (h : LowX F ok w g c B U V il free vI vF N Mm) (hl : il.length ≤ 1000) (hU : ∀ x, U x ≤ 1000) (hk1 : k.1 = [] → B k = none) (hk2 : k.1 ≠ [] → B k ≠ none) :
   Calls Try.prog 40 #[.pointer (some ⟨g.X, 0, none⟩), blkV (B k)] w fun e w' =>
     e = .returned (.tuple #[]) ∧ ∃ vI', LowX (grow F w) ok w' g c B (fun x => U x + if on c.slots k x then 1 else 0) V (il.filter (fun p => decide (¬ on c.slots k (p, 0)))) free vI' vF N Mm ∧ Moves F w w' := by
 obtain ⟨s1, s2⟩ := hc.slots
 have Hj := hide h.blks.inj
 obtain ⟨vk, hvk⟩ : ∃ vk, vk = blkV (B k) := ⟨_, rfl⟩
 rw [← hvk]
 have Hvk := hide hvk
 clear hvk
 go_enter Try.func40, Try.ntmps40
 go_wp2
 go_loopw [4] (fun v wr => ∃ (j : Key) (vI' : Value), v = blkV (B j) ∧ Hid (j.1 = [] → B j = none) ∧ Hid (j.1 ≠ [] → B j ≠ none) ∧ Hid (∀ x, on c.slots j x → on c.slots k x) ∧
     LowX (grow F w) ok wr g c B (fun x => U x + if on c.slots k x ∧ ¬ on c.slots j x then 1 else 0) V (il.filter (fun p => decide (¬ (on c.slots k (p, 0) ∧ ¬ on c.slots j (p, 0))))) free vI' vF N Mm ∧ Moves F w wr) (fun v _ => keyLen B v)
 case atStart =>
   refine ⟨k, vI, Hvk.out, hk1, hk2, fun x hx => hx, ?_, Moves.refl _ _⟩
   have e1 : (fun x => U x + if on c.slots k x ∧ ¬ on c.slots k x then 1 else 0) = U := by
     funext x
     rw [if_neg (by rintro ⟨a, b⟩; exact b a)]; rfl
   have e2 : il.filter (fun p => decide (¬ (on c.slots k (p, 0) ∧ ¬ on c.slots k (p, 0)))) = il := by
     apply List.filter_eq_self.2
     intro p _
     simp
   rw [e1, e2]
   exact h.mono (fun k hk => .inl hk)
 case round =>
   obtain ⟨j, vI', rfl, Hj1, Hj2, Hsub, hL, hM⟩ := hrel
   rcases none_or (B j) with hB | ⟨b, hB⟩
   · have ev : blkV (B j) = .pointer none := by rw [hB]; rfl
     rw [ev]
     have hj : j.1 = [] := by
       by_cases e : j.1 = []
       · exact e
       · exact absurd hB (Hj2.out e)
     have HL := hide hL
     clear hL ev
     go_wp2
     refine bodyPost_end (v := .tuple #[]) (by simp [results, Try.results40]) rfl ⟨rfl, vI', ?_, hM⟩
     have hno : ∀ x, ¬ on c.slots j x := fun x hx => by
       have e : j = ([], j.2) := Prod.ext hj rfl
       rw [e] at hx
       exact on_nil c.slots x j.2 hx
     have e1 : (fun x => U x + if on c.slots k x then 1 else 0) = fun x => U x + if on c.slots k x ∧ ¬ on c.slots j x then 1 else 0 := by
       funext x
       by_cases e : on c.slots k x
       · rw [if_pos e, if_pos ⟨e, hno x⟩]
       · rw [if_neg e, if_neg (fun q => e q.1)]
     have e2 : il.filter (fun p => decide (¬ on c.slots k (p, 0))) = il.filter (fun p => decide (¬ (on c.slots k (p, 0) ∧ ¬ on c.slots j (p, 0)))) := by
       apply List.filter_congr
       intro p _
       by_cases e : on c.slots k (p, 0)
       · simp [e, hno (p, 0)]
       · simp [e]
     rw [e1, e2]
     exact HL.out
   · have hBn : B j ≠ none := by rw [hB]; simp
     obtain ⟨jn, jok, jlen, _⟩ := hL.blks.ne j hBn
     have hrem := hL.remove_any j b hB (Nat.le_trans (List.length_filter_le _ _) hl)
     have Hrem := hide hrem
     obtain ⟨x0, hx0, _⟩ := hL.blk hB
     have ev : blkV (B j) = .pointer (some ⟨b, 0, none⟩) := by rw [hB]; rfl
     rw [ev]
     clear hrem ev
     go_wp2_with fail
     refine Hrem.out.mono ?_
     rintro e w1 ⟨rfl, vI2, hL1, hM1⟩
     obtain ⟨x1, hx1, _⟩ := hL1.blk hB
     have hle : U j + (if on c.slots k j ∧ ¬ on c.slots j j then 1 else 0) = U j := by rw [if_neg (fun q => q.2 (on_self _ _ jn))]; rfl
     rw [hle] at hx1
     have u1 : w1.cell? ⟨b, 2, none⟩ = some (.int .i64 (U j)) := by rw [cell_blk hx1]; rfl
     have u2 := frozen_blk hx1 2
     have hUj := hU j
     obtain ⟨hL2, hM2⟩ := hL1.setU j b (U j + 1) hB
     obtain ⟨x2, hx2, _⟩ := hL2.blk hB
     have u3 : (w1.setCell ⟨b, 2, none⟩ (.int .i64 ((U j + 1 : Nat) : Int))).cell? ⟨b, 1, none⟩ = some (blkV (B (pred c.slots j))) := by rw [cell_blk hx2]; rfl
     have ecast : ((U j + 1 : Nat) : Int) = (U j : Int) + 1 := by omega
     rw [ecast] at u3 hL2 hM2
     have HL2 := hide hL2
     have HM2 := hide hM2
     have HM1 := hide hM1
     clear hL2 hM2 hM1 hL1 hL hx1 hx2 hx0 Hrem
     go_wp2
     go_roundw
     case rel =>
       have hpn : (pred c.slots j).1 = [] → B (pred c.slots j) = none := fun e => by
         cases hh : B (pred c.slots j) with
         | none => rfl
         | some b' => exact absurd e (HL2.out.blks.ne _ (by rw [hh]; simp)).1
       have hkj : on c.slots k j := Hsub.out j (on_self _ _ jn)
       have hnj := not_on_pred c.slots j s1 jn
       refine ⟨pred c.slots j, vI2, rfl, hpn, HL2.out.blks.ahead j (by rw [hB]; simp), fun x hx => Hsub.out x (on_pred_sub _ _ _ s1 jok hx), ?_, (hM.trans (HM1.out.mono (fun k _ hk => hk))).trans (HM2.out.mono (fun k _ hk => grow_mono hM.size k hk))⟩
       have e1 : (fun x => U x + if on c.slots k x ∧ ¬ on c.slots (pred c.slots j) x then 1 else 0) = fun x => if x = j then U j + 1 else U x + if on c.slots k x ∧ ¬ on c.slots j x then 1 else 0 := by
         funext x
         by_cases e : x = j
         · rw [if_pos e, e, if_pos ⟨hkj, hnj⟩]
         · rw [if_neg e]
           have : on c.slots j x ↔ on c.slots (pred c.slots j) x := by
             rw [on_step c.slots j x s1 jok]
             exact ⟨fun q => q.elim (fun q => absurd q.1 e) id, .inr⟩
           simp only [this]
       have e2 : il.filter (fun p => decide (¬ (on c.slots k (p, 0) ∧ ¬ on c.slots (pred c.slots j) (p, 0)))) = (il.filter (fun p => decide (¬ (on c.slots k (p, 0) ∧ ¬ on c.slots j (p, 0))))).filter (fun p => decide ((p, 0) ≠ j)) := by
         rw [List.filter_filter]
         apply List.filter_congr
         intro p _
         by_cases e : (p, 0) = j
         · rw [e]; simp [hkj, hnj]
         · have : on c.slots j (p, 0) ↔ on c.slots (pred c.slots j) (p, 0) := by
             rw [on_step c.slots j _ s1 jok]
             exact ⟨fun q => q.elim (fun q => absurd q.1 e) id, .inr⟩
           simp [e, this]
       rw [e1, e2]
       exact HL2.out.mono (fun k hk => grow_mono hM.size k hk)
     case measure =>
       have e1 : keyLen B (.pointer (some ⟨b, 0, none⟩)) = j.1.length + 1 := by
         have := keyLen_some Hj.out (k := j) hBn
         rw [hB] at this
         exact this
       rw [e1]
       rcases none_or (B (pred c.slots j)) with hh | ⟨b', hh⟩
       · rw [keyLen_none hh]; omega
       · rw [keyLen_some Hj.out (by rw [hh]; simp)]
         have := (pred_len c.slots j s1 jn).2
         omega
end Go.Proofs.Ytlmflighkkgikaa
