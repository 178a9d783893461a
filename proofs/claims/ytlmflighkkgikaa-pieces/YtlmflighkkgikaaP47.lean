import Derived.Test.YtlmflighkkgikaaP43
import Derived.Test.YtlmflighkkgikaaP46

namespace Go.Proofs.Ytlmflighkkgikaa
open Go.RowKit
attribute [local go_sem ↓] Go.wp_at_zero Go.wp_at_succ
theorem sameI_refl (n : Nat) (f : Nat → Int) : sameI n n f f = true := by
 unfold sameI
 rw [(sameTo_iff f f n).2 (fun _ _ => rfl)]
 simp
theorem ksame {w : World} {va vb : Value} {n : Nat} {f : Nat → Int} (ha : IntsT w va n f) (hb : IntsT w vb n f) :
   Calls Try.prog 25 #[va, vb] w fun e w' => e = .returned (.bool true) ∧ Below w.heap.size w w' := by
 refine (hksame_any n n va vb f f w ha.ints hb.ints).mono ?_
 rintro e w' ⟨rfl, q, rfl⟩
 rw [sameI_refl]
 exact ⟨rfl, below_drewN (Below.refl _ _) q⟩
theorem IntsT.bel {w w' : World} {v : Value} {n : Nat} {g : Nat → Int} (h : IntsT w v n g) (hb : Below w.heap.size w w') : IntsT w' v n g := h.keep (KeepT.of_below hb)
set_option maxRecDepth 100000 in
set_option maxHeartbeats 8000000 in
theorem hkalike_any {B0 B1 : Nat} {w : World} {p q : HD} (hp : HeldK B0 w p) (hq : HeldK B1 w q) (hm : sameM p.c q.c) (ht : ∀ k : Int, 0 ≤ k → k < 5 → tkM p.L k = tkM q.L k) :
   Calls Try.prog 17 #[.pointer (some ⟨p.g.X, 0, none⟩), .pointer (some ⟨q.g.X, 0, none⟩), .int .i64 p.c.layers] w fun e w' => e = .returned (.bool true) ∧ Below w.heap.size w w' := by
 obtain ⟨l1, l2⟩ := hp.cok.layers
 have hcw : q.c.width = p.c.width := by unfold Cfg.width; rw [hm.2.1, hm.2.2.1]
 have hlgN : ∀ o, lgN q.c o = lgN p.c o := fun o => by cases o with | none => rfl | some t => exact hm.2.2.2.1.symm
 have hlgO : ∀ o, lgO q.c o = lgO p.c o := fun o => by
   cases o with
   | none => rfl
   | some t => unfold lgO; simp only []; rw [hm.logits, hm.xIn, hm.1]
 have htx := fun (W : World) (hb : Below w.heap.size w W) (k : Int) (hk : 0 ≤ k ∧ k < 5) => ktokens (hp.below hb) k (by omega)
 have hty := fun (W : World) (hb : Below w.heap.size w W) (k : Int) (hk : 0 ≤ k ∧ k < 5) => ktokens (hq.below hb) k (by omega)
 have hlx := fun (W : World) (hb : Below w.heap.size w W) (k : Int) (hk : 0 ≤ k ∧ k < 5) => klogits (hp.below hb) k (by omega)
 have hly := fun (W : World) (hb : Below w.heap.size w W) (k : Int) (hk : 0 ≤ k ∧ k < 5) => klogits (hq.below hb) k (by omega)
 have hkx := fun (W : World) (hb : Below w.heap.size w W) (k : Int) (hk : 0 ≤ k ∧ k < 5) (lay pos : Int) t hto hin => kkept (hp.below hb) k lay pos (by omega) t hto hin
 have hky := fun (W : World) (hb : Below w.heap.size w W) (k : Int) (hk : 0 ≤ k ∧ k < 5) (lay pos : Int) t hto hin => kkept (hq.below hb) k lay pos (by omega) t hto hin
 have hlen := fun (k : Int) (t : List Nat) (hto : tkM p.L k = some t) => hp.toks hto
 have hkk : kOf q.c = kOf p.c := hm.kOf.symm
 have hvv : vOf q.c = vOf p.c := hm.vOf.symm
 have Hly' := hm.1
 have Htx := hide htx
 have Hty := hide hty
 have Hlx := hide hlx
 have Hly := hide hly
 have Hkx := hide hkx
 have Hky := hide hky
 have Hlen := hide hlen
 have Hkk := hide hkk
 have Hvv := hide hvv
 have Hcw := hide hcw
 have HlgN := hide hlgN
 have HlgO := hide hlgO
 have Ht := hide ht
 have HL := hide Hly'
 clear htx hty hlx hly hkx hky hlen hkk hvv hcw hlgN hlgO ht Hly' hp hq hm
 go_enter Try.func17, Try.ntmps17
 go_wp2
 go_loopw [7] (fun i wr => ∃ kk : Nat, kk ≤ 5 ∧ i = .int .i64 kk ∧ Below w.heap.size w wr) (fun i _ => 5 - (intOf i).toNat)
 case atStart => exact ⟨0, by omega, rfl, Below.refl _ _⟩
 case round =>
   obtain ⟨kk, hkk5, rfl, hbel⟩ := hrel
   by_cases hlt : kk < 5
   · have hki : (0 : Int) ≤ kk ∧ (kk : Int) < 5 := by omega
     have hto := Ht.out kk hki.1 hki.2
     generalize ho : tkM p.L kk = o at hto
     have Ho := hide ho
     have Hto := hide hto
     have Hki := hide hki
     have Hbel := hide hbel
     clear ho hto hki hbel
     go_wp2_with (first
       | (go_at_call 26; refine (Htx.out _ Hbel.out kk Hki.out).mono ?_; rintro e w1 ⟨ra, rfl, ha, hb1⟩; rw [Ho.out] at ha; rw [Ho.out]; have HB1 := hide (Hbel.out.trans (hb1.mono Hbel.out.size)); have Ha := hide ha; clear ha hb1 Htx)
       | (go_at_call 26; refine (Hty.out _ HB1.out kk Hki.out).mono ?_; rintro e w2 ⟨rb, rfl, hb, hb2⟩; rw [← Hto.out] at hb; rw [← Hto.out]; have HB2 := hide (HB1.out.trans (hb2.mono HB1.out.size)); have Ha2 := hide (Ha.out.bel hb2); have Hb2 := hide hb; clear hb hb2 Ha Hty)
       | (go_at_call 16; refine (Hlx.out _ HB2.out kk Hki.out).mono ?_; rintro e w3 ⟨rc, rfl, hc, hb3⟩; rw [Ho.out] at hc; rw [Ho.out]; have HB3 := hide (HB2.out.trans (hb3.mono HB2.out.size)); have Ha3 := hide (Ha2.out.bel hb3); have Hb3 := hide (Hb2.out.bel hb3); have Hc3 := hide hc; clear hc hb3 Ha2 Hb2 Hlx)
       | (go_at_call 16; refine (Hly.out _ HB3.out kk Hki.out).mono ?_; rintro e w4 ⟨rd, rfl, hd, hb4⟩; rw [← Hto.out, HlgN.out, HlgO.out] at hd; rw [← Hto.out]; have HB4 := hide (HB3.out.trans (hb4.mono HB3.out.size)); have Ha4 := hide (Ha3.out.bel hb4); have Hb4 := hide (Hb3.out.bel hb4); have Hc4 := hide (Hc3.out.bel hb4); have Hd4 := hide hd; clear hd hb4 Ha3 Hb3 Hc3 Hly)
       | (go_at_call 25; refine (ksame Ha4.out Hb4.out).mono ?_; rintro e w5 ⟨rfl, hb5⟩; have HB5 := hide (HB4.out.trans (hb5.mono HB4.out.size)); have Ha5 := hide (Ha4.out.bel hb5); have Hc5 := hide (Hc4.out.bel hb5); have Hd5 := hide (Hd4.out.bel hb5); clear hb5 Ha4 Hb4 Hc4 Hd4)
       | (go_at_call 25; refine (ksame Hc5.out Hd5.out).mono ?_; rintro e w6 ⟨rfl, hb6⟩; have HB6 := hide (HB5.out.trans (hb6.mono HB5.out.size)); have ha6 := Ha5.out.bel hb6; obtain ⟨aa, ca, rfl, ha1, ha2, _⟩ := ha6.ints; clear hb6 Ha5 Hc5 Hd5 ha6))
     have hn40 : lenO o ≤ 40 ∧ ∀ pp, pp < lenO o → ∃ t, o = some t ∧ t.length = lenO o := by
       cases o with
       | none => exact ⟨by unfold lenO; simp only []; omega, fun pp h => by unfold lenO at h; simp only [] at h; omega⟩
       | some t => exact ⟨(Hlen.out kk t Ho.out).2.1, fun _ _ => ⟨t, rfl, rfl⟩⟩
     obtain ⟨hn40, hsome⟩ := hn40
     have Hsome := hide hsome
     clear hsome
     generalize lenO o = n at *
     go_loopw [18] (fun i wr2 => ∃ pp : Nat, pp ≤ n ∧ i = .int .i64 pp ∧ Below w.heap.size w wr2) (fun i _ => n - (intOf i).toNat)
     case atStart => exact ⟨0, by omega, rfl, HB6.out⟩
     case round =>
       obtain ⟨pp, hpp, rfl, hbi⟩ := hrel
       have Hbi := hide hbi
       clear hbi
       by_cases hpl : pp < n
       · obtain ⟨t, et, etl⟩ := Hsome.out pp hpl
         have hmod : 0 ≤ (pp : Int) % p.c.layers ∧ (pp : Int) % p.c.layers < p.c.layers := ⟨Int.emod_nonneg _ (by omega), Int.emod_lt_of_pos _ (by omega)⟩
         have htp : tkM p.L kk = some t := Ho.out.trans et
         have htq : tkM q.L kk = some t := Hto.out.symm.trans et
         have hkx := fun (W : World) (hb : Below w.heap.size w W) => Hkx.out W hb kk Hki.out ((pp : Int) % p.c.layers) pp t htp ⟨hmod, by omega⟩
         have hky := fun (W : World) (hb : Below w.heap.size w W) => Hky.out W hb kk Hki.out ((pp : Int) % p.c.layers) pp t htq ⟨by rw [← HL.out]; exact hmod, by omega⟩
         have HKx := hide hkx
         have HKy := hide hky
         clear hkx hky hmod htp htq et etl
         go_wp2_with (first
           | (go_at_call 36; refine (HKx.out _ Hbi.out).mono ?_; rintro e w7 ⟨rk, rv, rfl, hk7, hv7, hb7⟩; have HB7 := hide (Hbi.out.trans (hb7.mono Hbi.out.size)); have Hk7 := hide hk7; have Hv7 := hide hv7; clear hk7 hv7 hb7 HKx)
           | (go_at_call 36; refine (HKy.out _ HB7.out).mono ?_; rintro e w8 ⟨rk', rv', rfl, hk8, hv8, hb8⟩; rw [Hcw.out, Hkk.out] at hk8; rw [Hcw.out, Hvv.out] at hv8; have HB8 := hide (HB7.out.trans (hb8.mono HB7.out.size)); have Hk8 := hide (Hk7.out.bel hb8); have Hv8 := hide (Hv7.out.bel hb8); have Hk8' := hide hk8; have Hv8' := hide hv8; clear hk8 hv8 hb8 HKy Hk7 Hv7)
           | (go_at_call 25; refine (ksame Hk8.out Hk8'.out).mono ?_; rintro e w9 ⟨rfl, hb9⟩; have HB9 := hide (HB8.out.trans (hb9.mono HB8.out.size)); have Hv9 := hide (Hv8.out.bel hb9); have Hv9' := hide (Hv8'.out.bel hb9); clear hb9 Hk8 Hk8' Hv8 Hv8')
           | (go_at_call 25; refine (ksame Hv9.out Hv9'.out).mono ?_; rintro e w10 ⟨rfl, hb10⟩; have HB10 := hide (HB9.out.trans (hb10.mono HB9.out.size)); clear hb10 Hv9 Hv9'))
         go_roundw
         case rel => exact ⟨pp + 1, by omega, by go_num, HB10.out⟩
         case measure => simp [intOf]; omega
       · have hpe : pp = n := by omega
         subst hpe
         go_wp2
         go_roundw
         case rel => exact ⟨kk + 1, by omega, by go_num, Hbi.out⟩
         case measure => simp [intOf]; omega
   · have hke : kk = 5 := by omega
     subst hke
     go_wp2
     go_ret
     exact ⟨rfl, hbel⟩
end Go.Proofs.Ytlmflighkkgikaa
