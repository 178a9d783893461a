import Derived.Test.YtlmflighkkgikaaGreatP45
import Derived.Test.YtlmflighkkgikaaGreatP46

namespace Go.Proofs.YtlmflighkkgikaaGreat
open Go.RowKit
attribute [local go_sem ↓] Go.wp_at_zero Go.wp_at_succ
theorem BookOk.keepE {ok : Nat → Prop} {w w' : World} {B N : Nat} {vl : Value} (h : BookOk ok w N vl) (hb : BookI w B N vl) (h1 : ∀ g, vl.ownBlock = some g → w'.heap[g]? = w.heap[g]?) (h2 : ∀ b cur fr, BookE w N vl b → w.heap[b]? = some (.cells cur 36 fr) → w'.heap[b]? = some (.cells cur 36 fr)) : BookOk ok w' N vl := fun g i e hg hi hc => by
 rw [World.cell?_of_block (w := w) (w' := w') (a := ⟨g, i, none⟩) (h1 g hg)] at hc
 obtain ⟨_, es, hrow, hes⟩ := hb
 have q := owns_cell' hrow hg (j := i) (u := es i) (by simp [hi])
 have hc' := hc
 rw [q] at hc'
 injection hc' with hc'
 subst hc'
 obtain ⟨b0, cur0, fr0, e0, hh0⟩ := (hes i hi).blk
 intro b cur fr he hh k u hk hu
 have eb : b0 = b := by
   rw [e0] at he
   injection he with he _ _
   injection he with he
   injection he with he _ _
 subst eb
 have h3 := h2 b0 cur0 fr0 ⟨g, i, hg, hi, by rw [hc, e0]⟩ hh0
 rw [h3] at hh
 injection hh with hh
 injection hh with hh1 hh2 hh3
 subst hh1
 exact h g i _ hg hi hc b0 cur0 fr0 he hh0 k u hk hu
theorem keep_dec {B0 K : Nat} {ok : Nat → Prop} {w w2 : World} {p : PD} {L' : List (Int × Key)} {il' : List (List Nat)} {nt' : Nat} {vL' vI' : Value} {B N : Nat} {vl : Value} (hp : PairI B0 K w p) (hB0 : B0 ≤ w.heap.size) (hK : K ≤ w.heap.size) (hbk : BookI w B N vl) (hE : ∀ b, BookE w N vl b → ¬ atB p.vI b)
   (h : MidI ok K w w2 p L' il' nt' vL' vI') (hnt : nt' ≤ p.nt + 1) (r : Value) (n : Nat) (f : Nat → Int) (hr : w2.ownsRow w.heap.size 3 1 r n ((List.range n).map fun j => .int .i64 (f j))) (hok : ∀ b, r.ownBlock = some b → ¬ ok b) (hN : N ≤ 4999999999980) (hn : n ≤ 1000000) (q : Nat) :
   Calls Tryz.prog 50 #[.pointer (some ⟨B, 0, none⟩), r] (w2.drewN q) fun e w3 => e = .returned (.tuple #[]) ∧ ∃ p' N' vl', Stepped B0 K w p B N vl w3 p' N' vl' := by
 obtain ⟨b1, b2⟩ := hbk.keepE (h.keep _ (by unfold quietT mutT; decide)) (h.keep _ (by unfold quietT mutT; decide)) (fun b cur fr hb hh => h.keepI b cur fr (hE b hb) hh) (h.keep _ (by unfold quietT mutT; decide))
 have ho2 : BookOk (fun b => b < w.heap.size) w2 N vl := hbk.okOld.keepE hbk (fun g hg => by obtain ⟨cur, fr, u⟩ := hbk.own hg; rw [h.keep _ (by unfold quietT mutT; decide) _ _ _ u, u]) (fun b cur fr hb hh => h.keepI b cur fr (hE b hb) hh)
 have hd := bdrew w2 q
 have b1' : BookI (w2.drewN q) B N vl := b1.keep (KeepT.of_below hd) (KeepT.of_below hd) (KeepT.of_below hd) (KeepT.of_below hd)
 have ho2' : BookOk (fun b => b < w.heap.size) (w2.drewN q) N vl := ho2.keep b1 (fun g hg => rfl) (KeepT.of_below hd)
 refine (keep_any B N n r vl f (w2.drewN q) b1' (ho2'.mono (fun b hb e => by have := (hr.lt b e).1; omega)) (owns_base (show (w2.drewN q).ownsRow _ _ _ _ _ _ from hr) (Nat.zero_le _)) (by omega) hn).mono ?_
 rintro e w3 ⟨rfl, hO, vl', u1, u2, _, u4⟩
 have hO' : Only (fun k => k = B ∨ vl.ownBlock = some k ∨ r.ownBlock = some k) w2 w3 := ⟨hO.os, hO.tape, hO.output, hO.size, hO.block⟩
 refine ⟨rfl, mid_book hp hB0 hK hbk hE h hnt hO' (fun b hb => ⟨hok b hb, (hr.lt b hb).1, ?_⟩) u1 (by omega) u2 (fun b hb => (u4 b hb).imp (BookE.below hd b1.ownlt) (fun h => h))⟩
 obtain ⟨_, ⟨e1, _⟩ | ⟨g', cap, cur, e1, _, hh, _⟩⟩ := hr
 · rw [e1] at hb; cases hb
 · rw [e1] at hb; injection hb with hb; subst hb; exact ⟨_, _, hh⟩
theorem xdecode_no (p : PD) (w : World) (hc : p.c.ok) (hH : HoardI p.F (fun _ => True) w p.g p.c p.L p.il) (hR : RefI (fun _ => True) w p.Y p.d p.c p.L p.il p.nt p.vL p.vI) (hnt : p.nt ≤ 5000000000000) (A n : Int) (hA : -9223372036854775808 ≤ A ∧ A ≤ 9223372036854775807) (hn : -9223372036854775808 ≤ n ∧ n ≤ 9223372036854775807)
   (hno : ∀ L1 L2 k0, p.L = L1 ++ (A, k0) :: L2 → assoc L1 A = none → decodeS p.c k0 ((L1 ++ L2).map (·.2)) p.il n ≠ 0) : ∃ (code : Nat), code ≠ 0 ∧
   (∀ q, Calls Tryz.prog 48 #[.pointer (some ⟨p.g.X, 0, none⟩), .int .i64 A, .int .i64 n] (w.drewN q) fun e w1 => e = .returned (.tuple #[.slice none 0 0, .int .i64 code]) ∧ XTo (fun _ => True) w p p.L p.il w1) ∧
   ∀ w1 q, XTo (fun _ => True) w p p.L p.il w1 → Calls Tryz.prog 49 #[.pointer (some ⟨p.Y, 0, none⟩), .int .i64 A, .int .i64 n] (w1.drewN q) fun e w2 => e = .returned (.tuple #[.slice none 0 0, .int .i64 code]) ∧ ∃ nt', nt' ≤ p.nt + 1 ∧ RefTo (fun _ => True) w1 p.Y p.d p.c p.vL p.vI p.L p.il nt' w2 := by
 have hd : ∀ q, Below w.heap.size w (w.drewN q) := fun q => bdrew w q
 cases ha : assoc p.L A with
 | none =>
   refine ⟨3, by omega, fun q => ?_, fun w1 q hx => ?_⟩
   · refine (hdecode_none p.F _ p.g p.c p.L p.il A n (w.drewN q) (hH.below (hd q)) hA ha).mono ?_
     rintro e w1 ⟨rfl, rfl⟩
     exact ⟨rfl, XTo.same hH (hd q)⟩
   · refine (refdecode_none p.Y p.d p.c A n p.L _ p.il p.nt p.vL p.vI (w1.drewN q) (hx.ref hR q) ha).mono ?_
     rintro e w2 ⟨rfl, rfl⟩
     exact ⟨rfl, p.nt, Nat.le_succ _, RefTo.undraw (q := q) (RefTo.of_ref (hx.ref hR q) (Only.refl _ _))⟩
 | some k0 =>
   obtain ⟨L1, L2, eL, hno1⟩ := assoc_split ha
   have h0 := hno L1 L2 k0 eL hno1
   obtain ⟨hpu, hfr⟩ := hH.pureOf
   have hH' := fun q => hH.below (hd q)
   have hR0 := hR
   rw [eL] at hH' ha hR0 hpu hfr
   obtain ⟨tn, htn1, htn2⟩ : ∃ tn, tn ≠ 0 ∧ ∀ h ∈ (L1 ++ L2).map (·.2), h.2 ≠ tn := ⟨p.nt + 1, by omega, fun h hh => by
     obtain ⟨y, hy, rfl⟩ := List.mem_map.1 hh
     have := hR0.tails.le y (by rcases List.mem_append.1 hy with hy | hy <;> simp [hy])
     omega⟩
   obtain ⟨code, ec⟩ : ∃ code, decodeS p.c k0 ((L1 ++ L2).map (fun x => x.2)) p.il n = code := ⟨_, rfl⟩
   refine ⟨code, fun h => h0 (ec.trans h), fun q => ?_, fun w1 q hx => ?_⟩
   · refine (hdecode_some p.F (fun _ => True) p.g p.c hc L1 L2 p.il A k0 n tn (w.drewN q) (hH' q) hA hn ha ⟨htn1, htn2⟩ (fun _ _ => trivial)).mono ?_
     rintro e w1 (⟨_, rfl, hb⟩ | ⟨h, _⟩)
     · exact ⟨by rw [ec], XTo.same hH ⟨hb.os, hb.tape, hb.output, hb.size, hb.block⟩⟩
     · exact absurd h h0
   · have hR' := hx.ref hR q
     rw [eL] at hR'
     refine (refdecode_some p.Y p.d p.c hc A n L1 L2 (fun _ => True) p.il p.nt p.vL p.vI k0 (w1.drewN q) hR' hno1 hn hnt (fun _ _ => trivial) hpu hfr).mono ?_
     rintro e w2 (⟨_, rfl, nt', hn', h1⟩ | ⟨h, _⟩)
     · rw [← eL] at h1
       exact ⟨by rw [ec], nt', hn', h1.undraw⟩
     · exact absurd h h0
theorem RefTo.ints {ok ok' : Nat → Prop} {w w' : World} {Y d : Nat} {c : Cfg} {vL vI : Value} {L L' : List (Int × Key)} {il il' : List (List Nat)} {nt nt' : Nat} (h : RefTo ok w Y d c vL vI L' il' nt' w') (hr : RefI ok' w Y d c L il nt vL vI) : KeepT 3 w w' := h.1.keep (fun k cur fr hk hh => by
 obtain ⟨cur', e', q, he⟩ := hr.kind hk
 rw [q] at hh; injection hh with hh; injection hh with _ hh _
 rcases he with he | he | he <;> (rw [he] at hh; exact absurd hh (by decide)))
theorem xdecode_yes (p : PD) (w : World) (hc : p.c.ok) (hH : HoardI p.F (fun _ => True) w p.g p.c p.L p.il) (hR : RefI (fun _ => True) w p.Y p.d p.c p.L p.il p.nt p.vL p.vI) (hnt : p.nt ≤ 5000000000000) (A n : Int) (hA : -9223372036854775808 ≤ A ∧ A ≤ 9223372036854775807) (hn : -9223372036854775808 ≤ n ∧ n ≤ 9223372036854775807)
   (L1 L2 : List (Int × Key)) (k0 : Key) (eL : p.L = L1 ++ (A, k0) :: L2) (hno1 : assoc L1 A = none) (h0 : decodeS p.c k0 ((L1 ++ L2).map (·.2)) p.il n = 0) : ∃ (m : Nat) (f : Nat → Int) (L' : List (Int × Key)) (il' : List (List Nat)), m ≤ 40 ∧
   (∀ q, Calls Tryz.prog 48 #[.pointer (some ⟨p.g.X, 0, none⟩), .int .i64 A, .int .i64 n] (w.drewN q) fun e w1 => ∃ bN, e = .returned (.tuple #[.slice (some ⟨bN, 0, none⟩) m m, .int .i64 0]) ∧ OwnI w.heap.size w1 bN m m f ∧ XTo (fun b => b ≠ bN) w p L' il' w1) ∧
   ∀ w1 q bN, w.heap.size ≤ bN → bN < w1.heap.size → XTo (fun b => b ≠ bN) w p L' il' w1 → Calls Tryz.prog 49 #[.pointer (some ⟨p.Y, 0, none⟩), .int .i64 A, .int .i64 n] (w1.drewN q) fun e w2 => ∃ v, e = .returned (.tuple #[v, .int .i64 0]) ∧ IntsT w2 v m f ∧ KeepT 3 w1 w2 ∧ ∃ nt', nt' ≤ p.nt + 1 ∧ RefTo (fun b => b ≠ bN) w1 p.Y p.d p.c p.vL p.vI L' il' nt' w2 := by
 have hd : ∀ q, Below w.heap.size w (w.drewN q) := fun q => bdrew w q
 obtain ⟨hpu, hfr⟩ := hH.pureOf
 have ha : assoc p.L A = some k0 := by rw [eL, assoc_append, hno1, assoc_cons, if_pos rfl]; rfl
 have hH' := fun q => hH.below (hd q)
 have hR0 := hR
 rw [eL] at hH' hR0 hpu hfr
 have ha' : assoc (L1 ++ (A, k0) :: L2) A = some k0 := by rw [← eL]; exact ha
 have hk0len : 1 ≤ k0.1.length ∧ k0.1.length ≤ 40 := hR0.len (A, k0) (by simp)
 have hn0 : 0 ≤ n ∧ (k0.1.length : Int) + n ≤ 40 := by
   unfold decodeS at h0
   by_cases e1 : n < 0
   · rw [if_pos e1] at h0; omega
   · rw [if_neg e1] at h0
     by_cases e2 : 40 < (k0.1.length : Int) + n
     · rw [if_pos e2] at h0; omega
     · omega
 obtain ⟨_, _, p3, p4, _⟩ := put_old p.c hc L1 L2 p.il A k0 (goTo p.c k0.1 n.toNat) p.nt hR0.tails (fun x hx => List.length_pos_iff.1 (hR0.len x hx).1) hpu (by rw [goTo_split p.c k0.1 n.toNat (by omega)]; exact List.prefix_append _ _) hfr
 have refAt : ∀ w1 q bN, w.heap.size ≤ bN → (∀ L' il', XTo (fun b => b ≠ bN) w p L' il' w1 → RefI (fun b => b ≠ bN) (w1.drewN q) p.Y p.d p.c p.L p.il p.nt p.vL p.vI) := fun w1 q bN hb L' il' hx => hx.ref (hR.old.okmono (fun b hb' e => by omega)) q
 by_cases e0 : n = 0
 · refine ⟨n.toNat, fun j => tkI (goTo p.c k0.1 n.toNat) (k0.1.length + j), p.L, p.il, by omega, fun q => ?_, fun w1 q bN hb1 hb2 hx => ?_⟩
   · refine (hdecode_some p.F (fun _ => True) p.g p.c hc L1 L2 p.il A k0 n _ (w.drewN q) (hH' q) hA hn ha' ⟨p3, p4⟩ (fun _ _ => trivial)).mono ?_
     rintro e w1 (⟨h, _⟩ | ⟨_, bN, rfl, ho, ⟨_, hb⟩ | ⟨h, _⟩⟩)
     · exact absurd h0 h
     · have hb' : Below w.heap.size w w1 := ⟨hb.os, hb.tape, hb.output, hb.size, hb.block⟩
       have hge : w.heap.size ≤ bN := ho.ge
       exact ⟨bN, rfl, ho, XTo.same ((hH.and_old hc).okmono (fun b hb' e => by have := hb'.2; omega)) hb'⟩
     · exact absurd e0 h
   · have hR' := refAt w1 q bN hb1 _ _ hx
     rw [eL] at hR'
     refine (refdecode_some p.Y p.d p.c hc A n L1 L2 _ p.il p.nt p.vL p.vI k0 (w1.drewN q) hR' hno1 hn hnt (fun b hb' e => by simp at hb'; omega) hpu hfr).mono ?_
     rintro e w2 (⟨h, _⟩ | ⟨_, v, rfl, hv, nt', hn', ⟨_, h1⟩ | ⟨h, _⟩⟩)
     · exact absurd h0 h
     · rw [← eL] at h1
       exact ⟨v, rfl, hv, h1.undraw.ints (RefI.below (w' := w1) (refAt w1 q bN hb1 _ _ hx) ⟨rfl, rfl, rfl, Nat.le_refl _, fun _ _ => rfl⟩), nt', hn', h1.undraw⟩
     · exact absurd e0 h
 · refine ⟨n.toNat, fun j => tkI (goTo p.c k0.1 n.toNat) (k0.1.length + j), L1 ++ (A, endKey p.c.slots (goTo p.c k0.1 n.toNat) (putTn p.c (L1 ++ (A, k0) :: L2) p.il k0 (goTo p.c k0.1 n.toNat) p.nt)) :: L2, ilS p.c k0 ((L1 ++ L2).map (·.2)) p.il (goTo p.c k0.1 n.toNat), by omega, fun q => ?_, fun w1 q bN hb1 hb2 hx => ?_⟩
   · refine (hdecode_some p.F (fun _ => True) p.g p.c hc L1 L2 p.il A k0 n _ (w.drewN q) (hH' q) hA hn ha' ⟨p3, p4⟩ (fun _ _ => trivial)).mono ?_
     rintro e w1 (⟨h, _⟩ | ⟨_, bN, rfl, ho, ⟨h, _⟩ | ⟨_, h1, h2⟩⟩)
     · exact absurd h0 h
     · exact absurd h e0
     · exact ⟨bN, rfl, ho, ⟨⟨h1.only.os, h1.only.tape, h1.only.output, h1.only.size, h1.only.block⟩, h1.kept⟩, h2.okmono (fun b hb => hb.2)⟩
   · have hR' := refAt w1 q bN hb1 _ _ hx
     rw [eL] at hR'
     refine (refdecode_some p.Y p.d p.c hc A n L1 L2 _ p.il p.nt p.vL p.vI k0 (w1.drewN q) hR' hno1 hn hnt (fun b hb' e => by simp at hb'; omega) hpu hfr).mono ?_
     rintro e w2 (⟨h, _⟩ | ⟨_, v, rfl, hv, nt', hn', ⟨h, _⟩ | ⟨_, h1⟩⟩)
     · exact absurd h0 h
     · exact absurd h e0
     · exact ⟨v, rfl, hv, h1.undraw.ints (RefI.below (w' := w1) (refAt w1 q bN hb1 _ _ hx) ⟨rfl, rfl, rfl, Nat.le_refl _, fun _ _ => rfl⟩), nt', hn', h1.undraw⟩
set_option maxRecDepth 100000 in
set_option maxHeartbeats 4000000 in
theorem decodes_no (B0 K : Nat) (p : PD) (w : World) (hp : PairI B0 K w p) (hB0 : B0 ≤ w.heap.size) (hK : K ≤ w.heap.size) (B N : Nat) (vl : Value) (hbk : BookI w B N vl) (hE : ∀ b, BookE w N vl b → ¬ atB p.vI b) (hN : N ≤ 4999999999980) (H A Bv C : Int) (vT : Value) (hA : -9223372036854775808 ≤ A ∧ A ≤ 9223372036854775807) (hn : -9223372036854775808 ≤ Bv ∧ Bv ≤ 9223372036854775807) (hnt : p.nt ≤ 5000000000000)
   (hno : ∀ L1 L2 k0, p.L = L1 ++ (A, k0) :: L2 → assoc L1 A = none → decodeS p.c k0 ((L1 ++ L2).map (·.2)) p.il Bv ≠ 0) :
   Calls Tryz.prog 21 #[.pointer (some ⟨p.Pb, 0, none⟩), .agg #[.int .i64 H, .int .i64 6, .int .i64 A, .int .i64 Bv, .int .i64 C, vT], .pointer (some ⟨B, 0, none⟩)] w fun e w' => e = .returned (.bool true) ∧ ∃ p' N' vl', Stepped B0 K w p B N vl w' p' N' vl' := by
 have hnil := fun w a n c n' c' => Go.Lib.run_eql_slice_nil (P := Tryz.prog) w 36 3 a n c n' c' Tryz.underlying36
 obtain ⟨w0, hG⟩ := AskG.mk' hp H 6 A Bv C vT
 have hp0 := hp.below hG.below
 have hs0 := hG.below.size
 have hbk0 : BookI w0 B N vl := hbk.keep (KeepT.of_below hG.below) (KeepT.of_below hG.below) (KeepT.of_below hG.below) (KeepT.of_below hG.below)
 have hE0 : ∀ b, BookE w0 N vl b → ¬ atB p.vI b := fun b hb => hE b (BookE.below hG.below hbk.ownlt hb)
 obtain ⟨code, hcode, hX, hY⟩ := xdecode_no p w0 hp.cok hG.held hG.ref hnt A Bv hA hn hno
 have hY' : ∀ w1 q, XTo (fun _ => True) w0 p p.L p.il w1 → Calls Tryz.prog 49 #[.pointer (some ⟨p.Y, 0, none⟩), .int .i64 A, .int .i64 Bv] (w1.drewN q) fun e w2 => e = .returned (.tuple #[.slice none 0 0, .int .i64 code]) ∧ ∃ nt' vL' vI', nt' ≤ p.nt + 1 ∧ MidI (fun _ => True) K w0 w2 p p.L p.il nt' vL' vI' := fun w1 q hx => by
   refine (hY w1 q hx).mono ?_
   rintro e w2 ⟨rfl, nt', hn', hr⟩
   obtain ⟨vL', vI', hm⟩ := mid_of hp0 hx hr
   exact ⟨rfl, nt', vL', vI', hn', hm⟩
 have hkp : ∀ w2 q nt' vL' vI', nt' ≤ p.nt + 1 → MidI (fun _ => True) K w0 w2 p p.L p.il nt' vL' vI' → Calls Tryz.prog 50 #[.pointer (some ⟨B, 0, none⟩), .slice none 0 0] (w2.drewN q) fun e w3 => e = .returned (.tuple #[]) ∧ ∃ p' N' vl', Stepped B0 K w p B N vl w3 p' N' vl' := fun w2 q nt' vL' vI' hn' hm => by
   refine (keep_dec hp0 (by omega) (by omega) hbk0 hE0 hm hn' (.slice none 0 0) 0 (fun _ => 0) (by simpa using World.ownsRow_nil _ _ _ _) (fun b hb => by cases hb) hN (by omega) q).mono ?_
   rintro e w3 ⟨rfl, p', N', vl', h⟩
   exact ⟨rfl, p', N', vl', h.base hG.below hbk.ownlt⟩
 have hc0 : ((code : Int) == 0) = false := by rw [beq_eq_false_iff_ne]; omega
 have hc1 : ¬ (code : Int) = 0 := by omega
 have HG := hide hG
 have HX := hide hX
 have HY := hide hY'
 have Hkp := hide hkp
 obtain ⟨y0, y1, y2, y3, y4, y5⟩ := op_cells hG.box
 obtain ⟨u0, u1⟩ := pair_cells hG.pair
 clear hG hX hY hY' hkp hp hp0 hbk hbk0 hE hE0 hno hcode
 go_enter Tryz.func21, Tryz.ntmps21
 go_wp2
 rw [← HG.out.is]
 go_region_held3 (fun w' => w'.cell? ⟨p.Pb, 0, none⟩ = some (.pointer (some ⟨p.g.X, 0, none⟩)) ∧ w'.cell? ⟨w.heap.size, 2, none⟩ = some (.int .i64 A) ∧ w'.cell? ⟨w.heap.size, 3, none⟩ = some (.int .i64 Bv)) (go_keep)
   (first | (go_at_call 48; refine (HX.out 1).mono ?_; rintro e w1 ⟨rfl, hx⟩; obtain ⟨z0, z1, z2, z3, z4, z5⟩ := op_cells (hx.1.kept 38 (by unfold mutT; decide) _ _ _ HG.out.box); obtain ⟨t0, t1⟩ := pair_cells (hx.1.kept 46 (by unfold mutT; decide) _ _ _ HG.out.pair); have Hx := hide hx; clear hx))
 go_wp2
 go_region_held3 (fun w' => w'.cell? ⟨p.Pb, 1, none⟩ = some (.pointer (some ⟨p.Y, 0, none⟩)) ∧ w'.cell? ⟨w.heap.size, 2, none⟩ = some (.int .i64 A) ∧ w'.cell? ⟨w.heap.size, 3, none⟩ = some (.int .i64 Bv)) (go_keep)
   (first | (go_at_call 49; refine (HY.out w1 _ Hx.out).mono ?_; rintro e w2 ⟨rfl, nt', vL', vI', hn', hm⟩; obtain ⟨z0, z1, z2, z3, z4, z5⟩ := op_cells (hm.keep 38 (by unfold quietT mutT; decide) _ _ _ HG.out.box); obtain ⟨t0, t1⟩ := pair_cells (hm.keep 46 (by unfold quietT mutT; decide) _ _ _ HG.out.pair); have Hm := hide hm; clear hm))
 go_wp2_with (first
   | (go_at_call 16; refine (same_nils _).mono ?_; rintro e w3 ⟨rfl, q3, e3⟩; subst e3)
   | (go_at_call 50; refine (Hkp.out w2 _ nt' vL' vI' hn' Hm.out).mono ?_; rintro e w4 ⟨rfl, hfin⟩; have Hfin := hide hfin; clear hfin)
   | (go_at_call 25; refine Calls_use (num_any _ _) ?_))
 go_ret
 exact ⟨rfl, Hfin.out⟩
set_option maxRecDepth 100000 in
set_option maxHeartbeats 4000000 in
theorem decodes_yes (B0 K : Nat) (p : PD) (w : World) (hp : PairI B0 K w p) (hB0 : B0 ≤ w.heap.size) (hK : K ≤ w.heap.size) (B N : Nat) (vl : Value) (hbk : BookI w B N vl) (hE : ∀ b, BookE w N vl b → ¬ atB p.vI b) (hN : N ≤ 4999999999980) (H A Bv C : Int) (vT : Value) (hA : -9223372036854775808 ≤ A ∧ A ≤ 9223372036854775807) (hn : -9223372036854775808 ≤ Bv ∧ Bv ≤ 9223372036854775807) (hnt : p.nt ≤ 5000000000000)
   (L1 L2 : List (Int × Key)) (k0 : Key) (eL : p.L = L1 ++ (A, k0) :: L2) (hno1 : assoc L1 A = none) (h0 : decodeS p.c k0 ((L1 ++ L2).map (·.2)) p.il Bv = 0) :
   Calls Tryz.prog 21 #[.pointer (some ⟨p.Pb, 0, none⟩), .agg #[.int .i64 H, .int .i64 6, .int .i64 A, .int .i64 Bv, .int .i64 C, vT], .pointer (some ⟨B, 0, none⟩)] w fun e w' => e = .returned (.bool true) ∧ ∃ p' N' vl', Stepped B0 K w p B N vl w' p' N' vl' := by
 obtain ⟨w0, hG⟩ := AskG.mk' hp H 6 A Bv C vT
 have hp0 := hp.below hG.below
 have hs0 := hG.below.size
 have hbk0 : BookI w0 B N vl := hbk.keep (KeepT.of_below hG.below) (KeepT.of_below hG.below) (KeepT.of_below hG.below) (KeepT.of_below hG.below)
 have hE0 : ∀ b, BookE w0 N vl b → ¬ atB p.vI b := fun b hb => hE b (BookE.below hG.below hbk.ownlt hb)
 obtain ⟨m, f, L', il', hm40, hX, hY⟩ := xdecode_yes p w0 hp.cok hG.held hG.ref hnt A Bv hA hn L1 L2 k0 eL hno1 h0
 have hY' : ∀ w1 q bN, OwnI w0.heap.size w1 bN m m f → XTo (fun b => b ≠ bN) w0 p L' il' w1 → Calls Tryz.prog 49 #[.pointer (some ⟨p.Y, 0, none⟩), .int .i64 A, .int .i64 Bv] (w1.drewN q) fun e w2 => ∃ a cp, e = .returned (.tuple #[.slice a m cp, .int .i64 0]) ∧ IntsT w2 (.slice a m cp) m f ∧ OwnI w0.heap.size w2 bN m m f ∧ ∃ nt' vL' vI', nt' ≤ p.nt + 1 ∧ MidI (fun b => b ≠ bN) K w0 w2 p L' il' nt' vL' vI' := fun w1 q bN ho hx => by
   refine (hY w1 q bN ho.ge ho.lt hx).mono ?_
   rintro e w2 ⟨v, rfl, hv, hki, nt', hn', hr⟩
   obtain ⟨vL', vI', hm⟩ := mid_of hp0 hx hr
   obtain ⟨a, cp, ev, _⟩ := id hv
   subst ev
   exact ⟨a, cp, rfl, hv, ho.keepT hki, nt', vL', vI', hn', hm⟩
 have hsm : ∀ w2 bN a cp, OwnI w0.heap.size w2 bN m m f → IntsT w2 (.slice a m cp) m f → Calls Tryz.prog 16 #[.slice (some ⟨bN, 0, none⟩) m m, .slice a m cp] w2 fun e w' => e = .returned (.bool true) ∧ ∃ q, w' = w2.drewN q := fun w2 bN a cp ho hv => by
   refine (lawsame_any _ _ _ _ _ _ w2 ho.ints.ints hv.ints).mono ?_
   rintro e w' ⟨rfl, hq⟩
   rw [sameI_refl]
   exact ⟨rfl, hq⟩
 have hkp : ∀ w2 q bN nt' vL' vI', nt' ≤ p.nt + 1 → OwnI w0.heap.size w2 bN m m f → MidI (fun b => b ≠ bN) K w0 w2 p L' il' nt' vL' vI' → Calls Tryz.prog 50 #[.pointer (some ⟨B, 0, none⟩), .slice (some ⟨bN, 0, none⟩) m m] (w2.drewN q) fun e w3 => e = .returned (.tuple #[]) ∧ ∃ p' N' vl', Stepped B0 K w p B N vl w3 p' N' vl' := fun w2 q bN nt' vL' vI' hn' ho hm => by
   refine (keep_dec hp0 (by omega) (by omega) hbk0 hE0 hm hn' (.slice (some ⟨bN, 0, none⟩) m m) m f ho.owns (fun b hb => by cases hb; exact fun h => h rfl) hN (by omega) q).mono ?_
   rintro e w3 ⟨rfl, p', N', vl', h⟩
   exact ⟨rfl, p', N', vl', h.base hG.below hbk.ownlt⟩
 have HG := hide hG
 have HX := hide hX
 have HY := hide hY'
 have Hsm := hide hsm
 have Hkp := hide hkp
 obtain ⟨y0, y1, y2, y3, y4, y5⟩ := op_cells hG.box
 obtain ⟨u0, u1⟩ := pair_cells hG.pair
 clear hG hX hY hY' hkp hsm hp hp0 hbk hbk0 hE hE0 h0 eL hno1
 go_enter Tryz.func21, Tryz.ntmps21
 go_wp2
 rw [← HG.out.is]
 go_region_held3 (fun w' => w'.cell? ⟨p.Pb, 0, none⟩ = some (.pointer (some ⟨p.g.X, 0, none⟩)) ∧ w'.cell? ⟨w.heap.size, 2, none⟩ = some (.int .i64 A) ∧ w'.cell? ⟨w.heap.size, 3, none⟩ = some (.int .i64 Bv)) (go_keep)
   (first | (go_at_call 48; refine (HX.out 1).mono ?_; rintro e w1 ⟨bN, rfl, ho, hx⟩; obtain ⟨z0, z1, z2, z3, z4, z5⟩ := op_cells (hx.1.kept 38 (by unfold mutT; decide) _ _ _ HG.out.box); obtain ⟨t0, t1⟩ := pair_cells (hx.1.kept 46 (by unfold mutT; decide) _ _ _ HG.out.pair); have Hx := hide hx; have Ho := hide ho; clear hx ho))
 go_wp2
 go_region_held3 (fun w' => w'.cell? ⟨p.Pb, 1, none⟩ = some (.pointer (some ⟨p.Y, 0, none⟩)) ∧ w'.cell? ⟨w.heap.size, 2, none⟩ = some (.int .i64 A) ∧ w'.cell? ⟨w.heap.size, 3, none⟩ = some (.int .i64 Bv)) (go_keep)
   (first | (go_at_call 49; refine (HY.out w1 _ bN Ho.out Hx.out).mono ?_; rintro e w2 ⟨a2, cp2, rfl, hv2, ho2, nt', vL', vI', hn', hm⟩; obtain ⟨z0, z1, z2, z3, z4, z5⟩ := op_cells (hm.keep 38 (by unfold quietT mutT; decide) _ _ _ HG.out.box); obtain ⟨t0, t1⟩ := pair_cells (hm.keep 46 (by unfold quietT mutT; decide) _ _ _ HG.out.pair); have Hm := hide hm; have Hv2 := hide hv2; have Ho2 := hide ho2; clear hm hv2 ho2))
 go_wp2_with (first
   | (go_at_call 16; refine (Hsm.out w2 bN a2 cp2 Ho2.out Hv2.out).mono ?_; rintro e w3 ⟨rfl, q3, e3⟩; subst e3)
   | (go_at_call 50; refine (Hkp.out w2 _ bN nt' vL' vI' hn' Ho2.out Hm.out).mono ?_; rintro e w4 ⟨rfl, hfin⟩; have Hfin := hide hfin; clear hfin)
   | (go_at_call 25; refine Calls_use (num_any _ _) ?_))
 go_ret
 exact ⟨rfl, Hfin.out⟩
end Go.Proofs.YtlmflighkkgikaaGreat
