/-
  No cell of these rows narrows 'for every input' (looked for: loops, veiled, ifaces, maps, wideKeys, modest, calm, conditions, laid).
  DERIVED. THE GIVEN ROWS OF THIS SEAT. 6 by the template 'for every input the law returns true; each argument reads behind the call as it read before'; 0 by the template 'total and deterministic' (their statements: YtlmflighkkgikaaTotals.lean).
  GIVEN WITH THE SEED: the statements are not yours to turn. If you find one false, say at which input.
  Laid BY PROGRAM, IN A SANDBOX (cutbox-rows.mjs): the forced cells as the released guide's own fill.sh prints them over the translation 773509f77a3dfaae… (all of the seat's roots in one cut). By AI agents, Wed Nov 11 2026. No macro, syntax, notation, axiom, sorry.
-/
import Derived.Test.YtlmflighkkgikaaChecked
import GoSem.Claim
import GoSem.ClaimJoined
import GoSem.ClaimMapViews
import Derived.JoinedTies
import Derived.KernelRfl
namespace Go.Proofs.Ytlmflighkkgikaa
/- THE CELL 'sum', in the pinned program and in every row, IS THE sha256 OF THE DUMP (.gsa) THAT YtlmflighkkgikaaProg.lean LOADS. Nothing in Lean hashes anything: it is a label: what it is worth is what the hold of that sum in a sandbox is worth. -/
noncomputable def Try.pinned : Pinned := { name := "ytlmflighkkgikaa", sum := "773509f77a3dfaae9ff89f3f9c3859cee7a4d5d516035c82426e226a51b03891", checked := Try.checked }
namespace Rows
def none {H : Type} : Left H := { results := [], args := [] }

/-- 'hoardkeep.Pieces': WHATEVER THE INPUT: true; the input reads as it did. -/
def piecesSpec : ChangeSpec := { name := "pieces", fn := fun _ => fun
  | [d1, d2, d3, d4, d5] => { results := [.lit (.bool true)], args := [d1, d2, d3, d4, d5] }
  | _ => none }
def piecesRow : OpenClaim := { program := "ytlmflighkkgikaa", sum := "773509f77a3dfaae9ff89f3f9c3859cee7a4d5d516035c82426e226a51b03891", func := "hoard/hoardkeep.Pieces", spec := "pieces", unfollowed := true, recurses := true, apart := false }
def PiecesSaid : Prop := piecesRow.holds Try.pinned (OpenSpec.ofChange piecesSpec)

/-- ITS FALSE NEIGHBOUR: 'it returns false'. Refute it at one input. -/
def piecesWrong : ChangeSpec := { name := "pieces", fn := fun _ => fun
  | [d1, d2, d3, d4, d5] => { results := [.lit (.bool false)], args := [d1, d2, d3, d4, d5] }
  | _ => none }
def PiecesWrongFalsely : Prop := piecesRow.holds Try.pinned (OpenSpec.ofChange piecesWrong)

/-- 'hoardkeep.Shared': WHATEVER THE INPUT: true; the input reads as it did. -/
def sharedSpec : ChangeSpec := { name := "shared", fn := fun _ => fun
  | [d1, d2, d3, d4] => { results := [.lit (.bool true)], args := [d1, d2, d3, d4] }
  | _ => none }
def sharedRow : OpenClaim := { program := "ytlmflighkkgikaa", sum := "773509f77a3dfaae9ff89f3f9c3859cee7a4d5d516035c82426e226a51b03891", func := "hoard/hoardkeep.Shared", spec := "shared", unfollowed := true, recurses := true, apart := false }
def SharedSaid : Prop := sharedRow.holds Try.pinned (OpenSpec.ofChange sharedSpec)

/-- ITS FALSE NEIGHBOUR: 'it returns false'. Refute it at one input. -/
def sharedWrong : ChangeSpec := { name := "shared", fn := fun _ => fun
  | [d1, d2, d3, d4] => { results := [.lit (.bool false)], args := [d1, d2, d3, d4] }
  | _ => none }
def SharedWrongFalsely : Prop := sharedRow.holds Try.pinned (OpenSpec.ofChange sharedWrong)

/-- 'hoardkeep.Forked': WHATEVER THE INPUT: true; the input reads as it did. -/
def forkedSpec : ChangeSpec := { name := "forked", fn := fun _ => fun
  | [d1, d2, d3, d4, d5] => { results := [.lit (.bool true)], args := [d1, d2, d3, d4, d5] }
  | _ => none }
def forkedRow : OpenClaim := { program := "ytlmflighkkgikaa", sum := "773509f77a3dfaae9ff89f3f9c3859cee7a4d5d516035c82426e226a51b03891", func := "hoard/hoardkeep.Forked", spec := "forked", unfollowed := true, recurses := true, apart := false }
def ForkedSaid : Prop := forkedRow.holds Try.pinned (OpenSpec.ofChange forkedSpec)

/-- ITS FALSE NEIGHBOUR: 'it returns false'. Refute it at one input. -/
def forkedWrong : ChangeSpec := { name := "forked", fn := fun _ => fun
  | [d1, d2, d3, d4, d5] => { results := [.lit (.bool false)], args := [d1, d2, d3, d4, d5] }
  | _ => none }
def ForkedWrongFalsely : Prop := forkedRow.holds Try.pinned (OpenSpec.ofChange forkedWrong)

/-- 'hoardkeep.Alone': WHATEVER THE INPUT: true; the input reads as it did. -/
def aloneSpec : ChangeSpec := { name := "alone", fn := fun _ => fun
  | [d1, d2, d3, d4] => { results := [.lit (.bool true)], args := [d1, d2, d3, d4] }
  | _ => none }
def aloneRow : OpenClaim := { program := "ytlmflighkkgikaa", sum := "773509f77a3dfaae9ff89f3f9c3859cee7a4d5d516035c82426e226a51b03891", func := "hoard/hoardkeep.Alone", spec := "alone", unfollowed := true, recurses := true, apart := false }
def AloneSaid : Prop := aloneRow.holds Try.pinned (OpenSpec.ofChange aloneSpec)

/-- ITS FALSE NEIGHBOUR: 'it returns false'. Refute it at one input. -/
def aloneWrong : ChangeSpec := { name := "alone", fn := fun _ => fun
  | [d1, d2, d3, d4] => { results := [.lit (.bool false)], args := [d1, d2, d3, d4] }
  | _ => none }
def AloneWrongFalsely : Prop := aloneRow.holds Try.pinned (OpenSpec.ofChange aloneWrong)

/-- 'hoardkeep.Enough': WHATEVER THE INPUT: true; the input reads as it did. -/
def enoughSpec : ChangeSpec := { name := "enough", fn := fun _ => fun
  | [d1, d2, d3, d4, d5] => { results := [.lit (.bool true)], args := [d1, d2, d3, d4, d5] }
  | _ => none }
def enoughRow : OpenClaim := { program := "ytlmflighkkgikaa", sum := "773509f77a3dfaae9ff89f3f9c3859cee7a4d5d516035c82426e226a51b03891", func := "hoard/hoardkeep.Enough", spec := "enough", unfollowed := true, recurses := true, apart := false }
def EnoughSaid : Prop := enoughRow.holds Try.pinned (OpenSpec.ofChange enoughSpec)

/-- ITS FALSE NEIGHBOUR: 'it returns false'. Refute it at one input. -/
def enoughWrong : ChangeSpec := { name := "enough", fn := fun _ => fun
  | [d1, d2, d3, d4, d5] => { results := [.lit (.bool false)], args := [d1, d2, d3, d4, d5] }
  | _ => none }
def EnoughWrongFalsely : Prop := enoughRow.holds Try.pinned (OpenSpec.ofChange enoughWrong)

/-- 'hoardkeep.Untold': WHATEVER THE INPUT: true; the input reads as it did. -/
def untoldSpec : ChangeSpec := { name := "untold", fn := fun _ => fun
  | [d1, d2, d3, d4, d5, d6] => { results := [.lit (.bool true)], args := [d1, d2, d3, d4, d5, d6] }
  | _ => none }
def untoldRow : OpenClaim := { program := "ytlmflighkkgikaa", sum := "773509f77a3dfaae9ff89f3f9c3859cee7a4d5d516035c82426e226a51b03891", func := "hoard/hoardkeep.Untold", spec := "untold", unfollowed := true, recurses := true, apart := false }
def UntoldSaid : Prop := untoldRow.holds Try.pinned (OpenSpec.ofChange untoldSpec)

/-- ITS FALSE NEIGHBOUR: 'it returns false'. Refute it at one input. -/
def untoldWrong : ChangeSpec := { name := "untold", fn := fun _ => fun
  | [d1, d2, d3, d4, d5, d6] => { results := [.lit (.bool false)], args := [d1, d2, d3, d4, d5, d6] }
  | _ => none }
def UntoldWrongFalsely : Prop := untoldRow.holds Try.pinned (OpenSpec.ofChange untoldWrong)

/- THE SECOND FORM. 'bulk': how many values and letters a reading holds, each counted each time it is reached (what is shared counts as often as it is met; a slice's spare places count too). A statement '..UptoSaid' is the law's where the arguments, and the package variables that the reading takes, are together of bulk at most 1048576: NARROWER than '..Said'. Prove '..Said' where nothing that the law and all that it calls make is longer than what came in: it says more and counts as full. Else prove '..UptoSaid'. A law counts once. -/
mutual
def uptoBulk {H : Type} : DataW H → Nat
  | .lit (.string bytes) => bytes.length + 1
  | .lit _ => 1
  | .nil => 1
  | .ptr d => uptoBulk d + 1
  | .slice elems spare => uptoBulkAll elems + uptoBulkAll spare + 1
  | .agg parts => uptoBulkAll parts + 1
  | .iface _ d => uptoBulk d + 1
  | .map entries => uptoBulkEntries entries + 1
  | .held _ => 1
def uptoBulkAll {H : Type} : List (DataW H) → Nat
  | [] => 0
  | d :: r => uptoBulk d + uptoBulkAll r
def uptoBulkEntries {H : Type} : List (Lit × DataW H) → Nat
  | [] => 0
  | x :: r => uptoBulkEntry x + uptoBulkEntries r
def uptoBulkEntry {H : Type} : Lit × DataW H → Nat
  | (.string bytes, d) => bytes.length + uptoBulk d + 1
  | (_, d) => uptoBulk d + 1
 end
def uptoSmall : (H : Type) → List (DataW H) → Bool := fun _ ds => decide (uptoBulkAll ds ≤ 1048576)
def OpenSpec.upto (s : _root_.Go.ChangeSpec) : _root_.Go.OpenSpec := { _root_.Go.OpenSpec.ofChange s with cond := some uptoSmall }

/-- 'hoardkeep.Pieces', WHERE WHAT IT READS IS OF BULK AT MOST 1048576: true; the input reads as it did. -/
def piecesUptoRow : OpenClaim := { program := "ytlmflighkkgikaa", sum := "773509f77a3dfaae9ff89f3f9c3859cee7a4d5d516035c82426e226a51b03891", func := "hoard/hoardkeep.Pieces", spec := "pieces", unfollowed := true, recurses := true, apart := false, narrowed := true }
def PiecesUptoSaid : Prop := piecesUptoRow.holds Try.pinned (OpenSpec.upto piecesSpec)

/-- 'hoardkeep.Shared', WHERE WHAT IT READS IS OF BULK AT MOST 1048576: true; the input reads as it did. -/
def sharedUptoRow : OpenClaim := { program := "ytlmflighkkgikaa", sum := "773509f77a3dfaae9ff89f3f9c3859cee7a4d5d516035c82426e226a51b03891", func := "hoard/hoardkeep.Shared", spec := "shared", unfollowed := true, recurses := true, apart := false, narrowed := true }
def SharedUptoSaid : Prop := sharedUptoRow.holds Try.pinned (OpenSpec.upto sharedSpec)

/-- 'hoardkeep.Forked', WHERE WHAT IT READS IS OF BULK AT MOST 1048576: true; the input reads as it did. -/
def forkedUptoRow : OpenClaim := { program := "ytlmflighkkgikaa", sum := "773509f77a3dfaae9ff89f3f9c3859cee7a4d5d516035c82426e226a51b03891", func := "hoard/hoardkeep.Forked", spec := "forked", unfollowed := true, recurses := true, apart := false, narrowed := true }
def ForkedUptoSaid : Prop := forkedUptoRow.holds Try.pinned (OpenSpec.upto forkedSpec)

/-- 'hoardkeep.Alone', WHERE WHAT IT READS IS OF BULK AT MOST 1048576: true; the input reads as it did. -/
def aloneUptoRow : OpenClaim := { program := "ytlmflighkkgikaa", sum := "773509f77a3dfaae9ff89f3f9c3859cee7a4d5d516035c82426e226a51b03891", func := "hoard/hoardkeep.Alone", spec := "alone", unfollowed := true, recurses := true, apart := false, narrowed := true }
def AloneUptoSaid : Prop := aloneUptoRow.holds Try.pinned (OpenSpec.upto aloneSpec)

/-- 'hoardkeep.Enough', WHERE WHAT IT READS IS OF BULK AT MOST 1048576: true; the input reads as it did. -/
def enoughUptoRow : OpenClaim := { program := "ytlmflighkkgikaa", sum := "773509f77a3dfaae9ff89f3f9c3859cee7a4d5d516035c82426e226a51b03891", func := "hoard/hoardkeep.Enough", spec := "enough", unfollowed := true, recurses := true, apart := false, narrowed := true }
def EnoughUptoSaid : Prop := enoughUptoRow.holds Try.pinned (OpenSpec.upto enoughSpec)

/-- 'hoardkeep.Untold', WHERE WHAT IT READS IS OF BULK AT MOST 1048576: true; the input reads as it did. -/
def untoldUptoRow : OpenClaim := { program := "ytlmflighkkgikaa", sum := "773509f77a3dfaae9ff89f3f9c3859cee7a4d5d516035c82426e226a51b03891", func := "hoard/hoardkeep.Untold", spec := "untold", unfollowed := true, recurses := true, apart := false, narrowed := true }
def UntoldUptoSaid : Prop := untoldUptoRow.holds Try.pinned (OpenSpec.upto untoldSpec)

end Rows
end Go.Proofs.Ytlmflighkkgikaa
