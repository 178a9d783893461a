import Derived.Test.YtlmflighkkgikaaP48

namespace Go.Proofs.Ytlmflighkkgikaa
open Go.RowKit
attribute [local go_sem ↓] Go.wp_at_zero Go.wp_at_succ
def iv (l : List Int) : List Value := l.map fun x => .int .i64 x
theorem iv_app (a b : List Int) : iv (a ++ b) = iv a ++ iv b := by unfold iv; simp
theorem iv_range (n : Nat) (f : Nat → Int) : iv ((List.range n).map f) = (List.range n).map fun i => .int .i64 (f i) := by unfold iv; rw [List.map_map]; rfl
noncomputable def rowK (c : Cfg) (t : List Nat) (p y : Nat) : List Int := (List.range c.width).map (kOf c (tkN t) p y) ++ (List.range c.width).map (vOf c (tkN t) p y)
noncomputable def posTo (c : Cfg) (t : List Nat) (p : Nat) : Nat → List Int
 | 0 => []
 | y + 1 => posTo c t p y ++ rowK c t p y
noncomputable def seenTo (c : Cfg) (t : List Nat) : Nat → List Int
 | 0 => (List.range c.vocab).map (lgO c (some t))
 | p + 1 => seenTo c t p ++ posTo c t p c.layers
theorem rowK_len (c : Cfg) (t : List Nat) (p y : Nat) : (rowK c t p y).length = 2 * c.width := by unfold rowK; simp; omega
theorem posTo_len (c : Cfg) (t : List Nat) (p y : Nat) : (posTo c t p y).length = y * (2 * c.width) := by
 induction y with
 | zero => simp [posTo]
 | succ y ih => unfold posTo; rw [List.length_append, ih, rowK_len, Nat.add_mul, Nat.one_mul]
theorem seenTo_len (c : Cfg) (t : List Nat) (p : Nat) : (seenTo c t p).length = c.vocab + p * (c.layers * (2 * c.width)) := by
 induction p with
 | zero => simp [seenTo]
 | succ p ih => unfold seenTo; rw [List.length_append, ih, posTo_len, Nat.add_mul, Nat.one_mul, Nat.add_assoc]
noncomputable def seenL (c : Cfg) (o : Option (List Nat)) : List Int := match o with | none => [] | some t => seenTo c t t.length
theorem ints_of_iv {w : World} {base : Nat} {v : Value} {l : List Int} (h : w.ownsRow base 3 1 v l.length (iv l)) : IntsT w v l.length (fun j => l.getD j 0) := by
 have e : iv l = (List.range l.length).map fun j => .int .i64 (l.getD j 0) := by
   unfold iv
   refine List.ext_getElem? (fun i => ?_)
   rw [List.getElem?_map, List.getElem?_map]
   by_cases hi : i < l.length
   · rw [List.getElem?_range hi, List.getElem?_eq_getElem hi]
     simp [List.getD_eq_getElem?_getD, List.getElem?_eq_getElem hi]
   · rw [List.getElem?_eq_none (by omega), List.getElem?_eq_none (by simp; omega)]
     rfl
 rw [e] at h
 exact IntsT.of_owns h
theorem IntsT.src {w : World} {v : Value} {n : Nat} {g : Nat → Int} (h : IntsT w v n g) (hn : 0 < n) : ∃ b off cap, v = .slice (some ⟨b, off, none⟩) n cap ∧ b < w.heap.size ∧ ∀ j u, ((List.range n).map fun i => Value.int .i64 (g i))[j]? = some u → w.cell? ((⟨b, off, none⟩ : Addr).add j) = some u := by
 obtain ⟨a, cap, rfl, _, _, h3⟩ := h
 obtain ⟨b, off, cur, fr, rfl, hb, hc⟩ := h3 hn
 refine ⟨b, off, cap, rfl, lt_blk hb, fun j u hj => ?_⟩
 rw [List.getElem?_map] at hj
 by_cases hl : j < n
 · rw [List.getElem?_range hl] at hj
   injection hj with hj
   subst hj
   rw [addr_add, cell_blk hb]
   exact hc j hl
 · rw [List.getElem?_eq_none (by simp; omega)] at hj
   cases hj
theorem owns_src {w : World} {base : Nat} {v : Value} {n : Nat} {g : Nat → Int} (h : w.ownsRow base 3 1 v n ((List.range n).map fun j => .int .i64 (g j))) (hn : 0 < n) : ∃ b cap, v = .slice (some ⟨b, 0, none⟩) n cap ∧ base ≤ b ∧ b < w.heap.size ∧ ∀ j u, ((List.range n).map fun i => Value.int .i64 (g i))[j]? = some u → w.cell? ((⟨b, 0, none⟩ : Addr).add j) = some u := by
 obtain ⟨b, off, cap, e, hb, hc⟩ := (IntsT.of_owns h).src hn
 obtain ⟨_, ⟨_, q⟩ | ⟨g', cap', cur, e', h1, h2, _⟩⟩ := h
 · omega
 · rw [e'] at e
   injection e with e1 _ _
   injection e1 with e1
   injection e1 with e1 e2 _
   subst e1 e2
   exact ⟨_, _, e', h1, hb, hc⟩
theorem grown_src {w w' : World} {row : Option Nat} {b off : Nat} {l : List Value} (hg : w.grownBy w' row) (hne : some b ≠ row) (h : ∀ j u, l[j]? = some u → w.cell? ((⟨b, off, none⟩ : Addr).add j) = some u) : ∀ j u, l[j]? = some u → w'.cell? ((⟨b, off, none⟩ : Addr).add j) = some u :=
 fun j u hj => hg.cell (h j u hj) (by rw [addr_add]; exact hne)
theorem kkept2 {B0 : Nat} {w : World} {p : HD} (h : HeldK B0 w p) (k lay pos : Int) (hid : -9223372036854775808 ≤ k ∧ k ≤ 9223372036854775807) (t : List Nat) (ht : tkM p.L k = some t) (hin : (0 ≤ lay ∧ lay < p.c.layers) ∧ (0 ≤ pos ∧ pos < t.length)) (hw : 0 < p.c.width) :
   Calls Try.prog 36 #[.pointer (some ⟨p.g.X, 0, none⟩), .int .i64 k, .int .i64 lay, .int .i64 pos] w fun e w' => ∃ b1 c1 b2 c2, e = .returned (.tuple #[.slice (some ⟨b1, 0, none⟩) p.c.width c1, .slice (some ⟨b2, 0, none⟩) p.c.width c2, .int .i64 0]) ∧ (w.heap.size ≤ b1 ∧ b1 < w'.heap.size) ∧ (w.heap.size ≤ b2 ∧ b2 < w'.heap.size) ∧
     (∀ j u, ((List.range p.c.width).map fun i => Value.int .i64 (kOf p.c (tkN t) pos.toNat lay.toNat i))[j]? = some u → w'.cell? ((⟨b1, 0, none⟩ : Addr).add j) = some u) ∧
     (∀ j u, ((List.range p.c.width).map fun i => Value.int .i64 (vOf p.c (tkN t) pos.toNat lay.toNat i))[j]? = some u → w'.cell? ((⟨b2, 0, none⟩ : Addr).add j) = some u) ∧ Below w.heap.size w w' := by
 unfold tkM at ht
 cases hk : assoc p.L k with
 | none => rw [hk] at ht; cases ht
 | some k0 =>
   rw [hk] at ht
   injection ht with ht
   subst ht
   refine (hkept_some p.F (fun _ => True) p.g p.c h.cok p.L p.il k lay pos k0 w h.held hid hk hin).mono ?_
   rintro e w' ⟨hb, r1, r2, B2, rfl, hB, h1, _, h2⟩
   obtain ⟨b1, c1, rfl, l1, l2, s1⟩ := owns_src h1 hw
   obtain ⟨b2, c2, rfl, l3, l4, s2⟩ := owns_src h2 hw
   exact ⟨b1, c1, b2, c2, rfl, ⟨l1, l2⟩, ⟨by omega, l4⟩, s1, s2, hb⟩
set_option maxRecDepth 100000 in
set_option maxHeartbeats 8000000 in
theorem hkseen_any {B0 : Nat} {w : World} {p : HD} (hp : HeldK B0 w p) (k : Int) (hk : 0 ≤ k ∧ k < 5) :
   Calls Try.prog 23 #[.pointer (some ⟨p.g.X, 0, none⟩), .int .i64 k, .int .i64 p.c.layers] w fun e w' => ∃ r1 r2, e = .returned (.tuple #[r1, r2, .bool true]) ∧ IntsT w' r1 (lenO (tkM p.L k)) (tkO (tkM p.L k)) ∧ IntsT w' r2 (seenL p.c (tkM p.L k)).length (fun j => (seenL p.c (tkM p.L k)).getD j 0) ∧ Below w.heap.size w w' := by
 obtain ⟨i0, hi, hz0, hz1, hz2⟩ := info_parts Try.info_int
 obtain ⟨l1, l2⟩ := hp.cok.layers
 obtain ⟨v1, v2⟩ := hp.cok.vocab
 obtain ⟨d1, d2⟩ : 0 < p.c.width ∧ p.c.width ≤ 8 := by
   obtain ⟨h1, h2⟩ := hp.cok.heads
   obtain ⟨h3, h4⟩ := hp.cok.pairs
   unfold Cfg.width
   have e := Nat.mul_le_mul (Nat.mul_le_mul (Nat.le_refl 2) h2) h4
   have e1 := Nat.mul_le_mul (Nat.mul_le_mul (Nat.le_refl 2) h1) h3
   omega
 have htk := ktokens hp k (by omega)
 have hlg := fun (W : World) (hb : Below w.heap.size w W) => klogits (hp.below hb) k (by omega)
 have hkp := fun (W : World) (hb : Below w.heap.size w W) (lay pos : Int) t hto hin => kkept2 (hp.below hb) k lay pos (by omega) t hto hin d1
 cases ho : tkM p.L k with
 | none =>
   rw [ho] at htk hlg
   have Htk := hide htk
   have Hlg := hide hlg
   clear htk hlg hkp ho hp
   go_enter Try.func23, Try.ntmps23
   go_wp2_with (first
     | (go_at_call 26; refine Htk.out.mono ?_; rintro e w1 ⟨ra, rfl, _, hb1⟩; have HB1 := hide hb1; clear hb1 Htk)
     | (go_at_call 16; refine (Hlg.out _ HB1.out).mono ?_; rintro e w2 ⟨rb, rfl, _, hb2⟩; have HB2 := hide (HB1.out.trans (hb2.mono HB1.out.size)); clear hb2 Hlg))
   go_ret3
   exact ⟨_, _, rfl, ints_nil _ _, ints_nil _ _, HB2.out⟩
 | some t =>
   obtain ⟨t1, t2, _⟩ := hp.toks ho
   rw [ho] at htk hlg
   have hkp' := fun (W : World) (hb : Below w.heap.size w W) (lay pos : Nat) (h1 : lay < p.c.layers) (h2 : pos < t.length) => hkp W hb lay pos t ho ⟨⟨by omega, by omega⟩, ⟨by omega, by omega⟩⟩
   have htk' : Calls Try.prog 26 #[.pointer (some ⟨p.g.X, 0, none⟩), .int .i64 k] w fun e w' => ∃ r, e = .returned (.tuple #[r, .int .i64 0]) ∧ IntsT w' r t.length (tkO (some t)) ∧ Below w.heap.size w w' := htk
   have hlg' : ∀ W, Below w.heap.size w W → Calls Try.prog 16 #[.pointer (some ⟨p.g.X, 0, none⟩), .int .i64 k] W fun e w' => ∃ r, e = .returned (.tuple #[r, .int .i64 0]) ∧ IntsT w' r p.c.vocab (lgO p.c (some t)) ∧ Below W.heap.size W w' := hlg
   have Htk := hide htk'
   have Hlg := hide hlg'
   have Hkp := hide hkp'
   clear htk hlg hkp hkp' ho hp htk' hlg'
   show Calls _ _ _ _ fun e w' => ∃ r1 r2, e = .returned (.tuple #[r1, r2, .bool true]) ∧ IntsT w' r1 t.length (tkO (some t)) ∧ IntsT w' r2 (seenTo p.c t t.length).length (fun j => (seenTo p.c t t.length).getD j 0) ∧ Below w.heap.size w w'
   generalize p.c = c at *
   have hsl : ∀ pp yy, pp ≤ t.length → yy ≤ c.layers → (seenTo c t pp ++ posTo c t pp yy).length ≤ 2000 := fun pp yy h1 h2 => by
     rw [List.length_append, seenTo_len, posTo_len]
     have e1 : c.layers * (2 * c.width) ≤ 2 * 16 := Nat.mul_le_mul l2 (by omega)
     have e2 : pp * (c.layers * (2 * c.width)) ≤ 40 * 32 := Nat.mul_le_mul (by omega) e1
     have e3 : yy * (2 * c.width) ≤ 2 * 16 := Nat.mul_le_mul (by omega) (by omega)
     omega
   have Hsl := hide hsl
   clear hsl
   go_enter Try.func23, Try.ntmps23
   go_wp2_with (first
     | (go_at_call 26; refine Htk.out.mono ?_; rintro e w1 ⟨ra, rfl, ha, hb1⟩; have HB1 := hide hb1; have Ha := hide ha; clear hb1 ha Htk)
     | (go_at_call 16; refine (Hlg.out _ HB1.out).mono ?_; rintro e w2 ⟨rb, rfl, hb, hb2⟩; have HB2 := hide (HB1.out.trans (hb2.mono HB1.out.size)); have ha2 := Ha.out.bel hb2; obtain ⟨aa, ca, rfl, ha3, ha4, _⟩ := ha2.ints; have Ha2 := hide ha2; obtain ⟨b2, off2, cp2, rfl, hbl2, hsrc2⟩ := hb.src (by omega); have Hsrc2 := hide hsrc2; clear hb hb2 Hlg Ha ha2 hsrc2)
     | (at_builtin; refine wpList_append_own _ rfl _ _ 24 rfl w2.heap.size 3 i0 (.int .i64 0) 1 8 Try.underlying24 hi hz0 hz1 hz2 rfl (by decide) (.slice none 0 0) 0 [] rfl (World.ownsRow_nil _ _ _ _) ⟨b2, off2, none⟩ c.vocab cp2 ((List.range c.vocab).map fun i => .int .i64 (lgO c (some t) i)) rfl (by simp) Hsrc2.out (ints_one _ _) (by unfold maxLen; omega) (by omega) (Nat.le_refl _) ?_; intro v3 w3 hown3 hgrow3 _))
   have hB3 : Below w2.heap.size w2 w3 := (Below.refl _ _).grown hgrow3 (Nat.le_refl _) (fun g hg => by simp [Value.ownBlock] at hg)
   have ho3 : w3.ownsRow w2.heap.size 3 1 v3 (seenTo c t 0).length (iv (seenTo c t 0)) := by
     have e : (seenTo c t 0).length = 0 + c.vocab := by unfold seenTo; simp
     have e' : iv (seenTo c t 0) = [] ++ (List.range c.vocab).map fun i => .int .i64 (lgO c (some t) i) := by unfold seenTo; rw [iv_range]; rfl
     rw [e, e']
     exact hown3
   have hs2 := HB2.out.size
   clear hown3 hgrow3
   go_loopw [13, 14] (fun o i wr => ∃ pp : Nat, pp ≤ t.length ∧ i = .int .i64 pp ∧ wr.ownsRow w2.heap.size 3 1 o (seenTo c t pp).length (iv (seenTo c t pp)) ∧ Below w2.heap.size w2 wr) (fun _ i _ => t.length - (intOf i).toNat)
   case atStart => exact ⟨0, Nat.zero_le _, rfl, ho3, hB3⟩
   case round =>
     obtain ⟨pp, hpp, rfl, ho4, hB4⟩ := hrel
     by_cases hlt : pp < t.length
     · go_wp2
       go_loopw [13, 15] (fun o i wr2 => ∃ yy : Nat, yy ≤ c.layers ∧ i = .int .i64 yy ∧ wr2.ownsRow w2.heap.size 3 1 o (seenTo c t pp ++ posTo c t pp yy).length (iv (seenTo c t pp ++ posTo c t pp yy)) ∧ Below w2.heap.size w2 wr2) (fun _ i _ => c.layers - (intOf i).toNat)
       case atStart => exact ⟨0, Nat.zero_le _, rfl, by simpa [posTo] using ho4, hB4⟩
       case round =>
         obtain ⟨yy, hyy, rfl, ho5, hB5⟩ := hrel
         by_cases hly : yy < c.layers
         · have hkp := Hkp.out wr (HB2.out.trans (hB5.mono hs2)) yy pp hly hlt
           have hl5 := Hsl.out pp yy hpp hyy
           have HKp := hide hkp
           clear hkp
           generalize hn5 : (seenTo c t pp ++ posTo c t pp yy).length = n5 at ho5 hl5
           have Hn5 := hide hn5
           clear hn5
           go_wp2_with (first
             | (go_at_call 36; refine HKp.out.mono ?_; clear HKp; rintro e w6 ⟨b1, c1, b2', c2, rfl, hb1, hb2, s1, s2, hb6⟩; rw [Int.toNat_natCast, Int.toNat_natCast] at s1 s2; have ho6 := owns_below ho5 hb6; have S1 := hide s1; have S2 := hide s2; have Hb6 := hide hb6; clear s1 s2 hb6)
             | (at_builtin; refine wpList_append_own _ rfl _ _ 24 rfl w2.heap.size 3 i0 (.int .i64 0) 1 8 Try.underlying24 hi hz0 hz1 hz2 rfl (by decide) u13 n5 _ rfl ho6 ⟨b1, 0, none⟩ c.width c1 ((List.range c.width).map fun i => .int .i64 (kOf c (tkN t) pp yy i)) rfl (by simp) S1.out (ints_one _ _) (by unfold maxLen; omega) (by omega) (Nat.le_trans hB5.size Hb6.out.size) ?_; intro v7 w7 hown7 hgrow7 _; have s3 := grown_src hgrow7 (fun e => by have := (ho5.lt _ e.symm).2; omega) S2.out; have S3 := hide s3; clear s3)
             | (at_builtin; refine wpList_append_own _ rfl _ _ 24 rfl w2.heap.size 3 i0 (.int .i64 0) 1 8 Try.underlying24 hi hz0 hz1 hz2 rfl (by decide) v7 (n5 + c.width) _ rfl hown7 ⟨b2', 0, none⟩ c.width c2 ((List.range c.width).map fun i => .int .i64 (vOf c (tkN t) pp yy i)) rfl (by simp) S3.out (ints_one _ _) (by unfold maxLen; omega) (by omega) (Nat.le_trans (Nat.le_trans hB5.size Hb6.out.size) hgrow7.size) ?_; intro v8 w8 hown8 hgrow8 _))
           have hb7 : Below w2.heap.size w2 w7 := (hB5.trans (Hb6.out.mono hB5.size)).grown hgrow7 (Nat.le_trans hB5.size Hb6.out.size) (fun g hg => (ho5.lt g hg).1)
           have hb8 : Below w2.heap.size w2 w8 := hb7.grown hgrow8 hb7.size (fun g hg => (hown7.lt g hg).1)
           have e8 : seenTo c t pp ++ posTo c t pp (yy + 1) = ((seenTo c t pp ++ posTo c t pp yy) ++ (List.range c.width).map (kOf c (tkN t) pp yy)) ++ (List.range c.width).map (vOf c (tkN t) pp yy) := by
             show seenTo c t pp ++ (posTo c t pp yy ++ rowK c t pp yy) = _
             unfold rowK
             simp only [List.append_assoc]
           have ho8 : w8.ownsRow w2.heap.size 3 1 v8 (seenTo c t pp ++ posTo c t pp (yy + 1)).length (iv (seenTo c t pp ++ posTo c t pp (yy + 1))) := by
             rw [e8, iv_app, iv_app, iv_range, iv_range, List.length_append, List.length_append, Hn5.out]
             simpa using hown8
           go_roundw
           case rel => exact ⟨yy + 1, by omega, by go_num, ho8, hb8⟩
           case measure => simp [intOf]; omega
         · have hye : yy = c.layers := by omega
           subst hye
           go_wp2
           go_roundw
           case rel => exact ⟨pp + 1, by omega, by go_num, ho5, hB5⟩
           case measure => simp [intOf]; omega
     · have hpe : pp = t.length := by omega
       subst hpe
       go_wp2
       go_ret3
       exact ⟨_, _, rfl, Ha2.out.bel hB4, ints_of_iv ho4, HB2.out.trans (hB4.mono hs2)⟩
end Go.Proofs.Ytlmflighkkgikaa
