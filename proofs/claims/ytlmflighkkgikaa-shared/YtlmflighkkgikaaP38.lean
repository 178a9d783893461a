import Derived.Test.YtlmflighkkgikaaP22
import Derived.Test.YtlmflighkkgikaaP36

namespace Go.Proofs.Ytlmflighkkgikaa
open Go.RowKit
attribute [local go_sem ↓] Go.wp_at_zero Go.wp_at_succ
def goTo (c : Cfg) (T : List Nat) : Nat → List Nat
 | 0 => T
 | n + 1 => goTo c T n ++ [nextOf c (xIn c (tkN (goTo c T n)) ((goTo c T n).length - 1) c.layers)]
structure GoesOn (c : Cfg) (T U : List Nat) (n : Nat) : Prop where
 len : U.length = T.length + n
 pre : U.take T.length = T
 next : ∀ i, i < n → tkN U (T.length + i) = nextOf c (xIn c (tkN U) (T.length + i - 1) c.layers)
theorem GoesOn.left {c : Cfg} {T U : List Nat} {n : Nat} (h : GoesOn c T U n) (j : Nat) (hj : j < T.length) : tkN T j = tkN U j := by
 have := tkN_take U T.length j hj
 rw [h.pre] at this
 exact this
theorem GoesOn.tok {c : Cfg} (hc : c.ok) {T U : List Nat} {n : Nat} (h : GoesOn c T U n) (i : Nat) (hi : i < n) : tkN U (T.length + i) < c.vocab := by
 rw [h.next i hi]; exact nextOf_lt c hc _
theorem CellI.and_old {ok : Nat → Prop} {w : World} {v : Value} {L m : Nat} {kf vf : Nat → Nat → Int} (hm : 0 < m) (h : CellI ok w v L m kf vf) : CellI (fun b => ok b ∧ b < w.heap.size) w v L m kf vf := by
 obtain ⟨b, cap, arr, fr, h1, h2, h3, h4, h5⟩ := h
 have go : ∀ {u : Value} {g : Nat → Int}, IntsT w u m g → okV ok u → okV (fun b => ok b ∧ b < w.heap.size) u := by
   intro u g hu ho a n c e
   refine ⟨ho a n c e, ?_⟩
   obtain ⟨a', c', e', _, _, q⟩ := hu
   rw [e'] at e
   obtain ⟨b, off, cur, fr, ea, hb, _⟩ := q hm
   subst ea
   cases e
   exact lt_blk hb
 refine ⟨b, cap, arr, fr, h1, h2, h3, h4, fun l hl => ?_⟩
 obtain ⟨vk, vv, q1, q2, q3, q4, q5, q6⟩ := h5 l hl
 exact ⟨vk, vv, q1, q2, q3, q4, go q3 q5, go q4 q6⟩
theorem SeqAt.and_old {ok : Nat → Prop} {w : World} {c : Cfg} (hm : 0 < c.width) {B : Key → Option Nat} {U : Key → Nat} {k : Key} (h : SeqAt ok w c B U k) : SeqAt (fun b => ok b ∧ b < w.heap.size) w c B U k :=
 ⟨⟨fun j b hj => by
   obtain ⟨v, h1, S, h2, h3⟩ := h.blks.at' j b hj
   exact ⟨v, h1, S, h2, fun t ht => ⟨(h3 t ht).1, (h3 t ht).2.and_old hm⟩⟩, h.blks.ne, h.blks.ahead, h.blks.inj⟩, h.nil, h.here⟩
theorem SeqAt.okmono {ok ok' : Nat → Prop} {w : World} {c : Cfg} {B : Key → Option Nat} {U : Key → Nat} {k : Key} (h : SeqAt ok w c B U k) (hm : ∀ b, ok b → ok' b) : SeqAt ok' w c B U k :=
 ⟨⟨fun j b hj => by
   obtain ⟨v, h1, S, h2, h3⟩ := h.blks.at' j b hj
   exact ⟨v, h1, S, h2, fun t ht => ⟨(h3 t ht).1, (h3 t ht).2.mono hm⟩⟩, h.blks.ne, h.blks.ahead, h.blks.inj⟩, h.nil, h.here⟩
end Go.Proofs.Ytlmflighkkgikaa
