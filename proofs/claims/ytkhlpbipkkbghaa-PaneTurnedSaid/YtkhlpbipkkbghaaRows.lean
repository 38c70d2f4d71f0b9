/-
  No cell of these rows narrows 'for every input' (looked for: loops, veiled, ifaces, maps, wideKeys, modest, calm, conditions, laid).
  DERIVED. THE GIVEN ROWS OF THIS SEAT. 4 by the template 'for every input the law returns true; each argument reads behind the call as it read before'; 0 by the template 'total and deterministic' (their statements: YtkhlpbipkkbghaaTotals.lean).
  GIVEN WITH THE SEED: the statements are not yours to turn. If you find one false, say at which input.
  Laid BY PROGRAM, IN A SANDBOX (cutbox-rows.mjs): the forced cells as the released guide's own fill.sh prints them over the translation f9544dbfc5c09436… (all of the seat's roots in one cut). By AI agents, Wed Nov 11 2026. No macro, syntax, notation, axiom, sorry.
-/
import Derived.Test.YtkhlpbipkkbghaaChecked
import GoSem.Claim
import GoSem.ClaimJoined
import GoSem.ClaimMapViews
import Derived.JoinedTies
import Derived.KernelRfl
namespace Go.Proofs.Ytkhlpbipkkbghaa
/- THE CELL 'sum', in the pinned program and in every row, IS THE sha256 OF THE DUMP (.gsa) THAT YtkhlpbipkkbghaaProg.lean LOADS. Nothing in Lean hashes anything: it is a label: what it is worth is what the hold of that sum in a sandbox is worth. -/
noncomputable def Try.pinned : Pinned := { name := "ytkhlpbipkkbghaa", sum := "f9544dbfc5c09436763f65f3b2a9c02f2e0d9e4aac2dd512fb6f7a1f5ed6ca7b", checked := Try.checked }
namespace Rows
def none {H : Type} : Left H := { results := [], args := [] }

/-- 'belfrylaw12.PaneOf': WHATEVER THE INPUT: true; the input reads as it did. -/
def paneOfSpec : ChangeSpec := { name := "paneOf", fn := fun _ => fun
  | [d1, d2] => { results := [.lit (.bool true)], args := [d1, d2] }
  | _ => none }
def paneOfRow : OpenClaim := { program := "ytkhlpbipkkbghaa", sum := "f9544dbfc5c09436763f65f3b2a9c02f2e0d9e4aac2dd512fb6f7a1f5ed6ca7b", func := "belfry/belfrylaw12.PaneOf", spec := "paneOf", inPlace := ["math/bits.Add64"], unfollowed := true, recurses := true, apart := false }
def PaneOfSaid : Prop := paneOfRow.holds Try.pinned (OpenSpec.ofChange paneOfSpec)

/-- ITS FALSE NEIGHBOUR: 'it returns false'. Refute it at one input. -/
def paneOfWrong : ChangeSpec := { name := "paneOf", fn := fun _ => fun
  | [d1, d2] => { results := [.lit (.bool false)], args := [d1, d2] }
  | _ => none }
def PaneOfWrongFalsely : Prop := paneOfRow.holds Try.pinned (OpenSpec.ofChange paneOfWrong)

/-- 'belfrylaw12.PaneMerge': WHATEVER THE INPUT: true; the input reads as it did. -/
def paneMergeSpec : ChangeSpec := { name := "paneMerge", fn := fun _ => fun
  | [d1, d2] => { results := [.lit (.bool true)], args := [d1, d2] }
  | _ => none }
def paneMergeRow : OpenClaim := { program := "ytkhlpbipkkbghaa", sum := "f9544dbfc5c09436763f65f3b2a9c02f2e0d9e4aac2dd512fb6f7a1f5ed6ca7b", func := "belfry/belfrylaw12.PaneMerge", spec := "paneMerge", inPlace := ["math/bits.Add64"], unfollowed := true, recurses := true, apart := false }
def PaneMergeSaid : Prop := paneMergeRow.holds Try.pinned (OpenSpec.ofChange paneMergeSpec)

/-- ITS FALSE NEIGHBOUR: 'it returns false'. Refute it at one input. -/
def paneMergeWrong : ChangeSpec := { name := "paneMerge", fn := fun _ => fun
  | [d1, d2] => { results := [.lit (.bool false)], args := [d1, d2] }
  | _ => none }
def PaneMergeWrongFalsely : Prop := paneMergeRow.holds Try.pinned (OpenSpec.ofChange paneMergeWrong)

/-- 'belfrylaw12.PaneTurned': WHATEVER THE INPUT: true; the input reads as it did. -/
def paneTurnedSpec : ChangeSpec := { name := "paneTurned", fn := fun _ => fun
  | [d1, d2] => { results := [.lit (.bool true)], args := [d1, d2] }
  | _ => none }
def paneTurnedRow : OpenClaim := { program := "ytkhlpbipkkbghaa", sum := "f9544dbfc5c09436763f65f3b2a9c02f2e0d9e4aac2dd512fb6f7a1f5ed6ca7b", func := "belfry/belfrylaw12.PaneTurned", spec := "paneTurned", inPlace := ["math/bits.Add64"], unfollowed := true, recurses := true, apart := false }
def PaneTurnedSaid : Prop := paneTurnedRow.holds Try.pinned (OpenSpec.ofChange paneTurnedSpec)

/-- ITS FALSE NEIGHBOUR: 'it returns false'. Refute it at one input. -/
def paneTurnedWrong : ChangeSpec := { name := "paneTurned", fn := fun _ => fun
  | [d1, d2] => { results := [.lit (.bool false)], args := [d1, d2] }
  | _ => none }
def PaneTurnedWrongFalsely : Prop := paneTurnedRow.holds Try.pinned (OpenSpec.ofChange paneTurnedWrong)

/-- 'belfrylaw12.PaneBounds': WHATEVER THE INPUT: true; the input reads as it did. -/
def paneBoundsSpec : ChangeSpec := { name := "paneBounds", fn := fun _ => fun
  | [d] => { results := [.lit (.bool true)], args := [d] }
  | _ => none }
def paneBoundsRow : OpenClaim := { program := "ytkhlpbipkkbghaa", sum := "f9544dbfc5c09436763f65f3b2a9c02f2e0d9e4aac2dd512fb6f7a1f5ed6ca7b", func := "belfry/belfrylaw12.PaneBounds", spec := "paneBounds", inPlace := ["math/bits.Add64"], unfollowed := true, recurses := true, apart := false }
def PaneBoundsSaid : Prop := paneBoundsRow.holds Try.pinned (OpenSpec.ofChange paneBoundsSpec)

/-- ITS FALSE NEIGHBOUR: 'it returns false'. Refute it at one input. -/
def paneBoundsWrong : ChangeSpec := { name := "paneBounds", fn := fun _ => fun
  | [d] => { results := [.lit (.bool false)], args := [d] }
  | _ => none }
def PaneBoundsWrongFalsely : Prop := paneBoundsRow.holds Try.pinned (OpenSpec.ofChange paneBoundsWrong)

/- THE SECOND FORM. 'bulk': how many values and letters a reading holds, each counted each time it is reached (what is shared counts as often as it is met; a slice's spare places count too). A statement '..UptoSaid' is the law's where the arguments, and the package variables that the reading takes, are together of bulk at most 1048576: NARROWER than '..Said'. Prove '..Said' where nothing that the law and all that it calls make is longer than what came in: it says more and counts as full. Else prove '..UptoSaid'. A law counts once. -/
mutual
def uptoBulk {H : Type} : DataW H → Nat
  | .lit (.string bytes) => bytes.length + 1
  | .lit _ => 1
  | .nil => 1
  | .ptr d => uptoBulk d + 1
  | .slice elems spare => uptoBulkAll elems + uptoBulkAll spare + 1
  | .agg parts => uptoBulkAll parts + 1
  | .iface _ d => uptoBulk d + 1
  | .map entries => uptoBulkEntries entries + 1
  | .held _ => 1
def uptoBulkAll {H : Type} : List (DataW H) → Nat
  | [] => 0
  | d :: r => uptoBulk d + uptoBulkAll r
def uptoBulkEntries {H : Type} : List (Lit × DataW H) → Nat
  | [] => 0
  | x :: r => uptoBulkEntry x + uptoBulkEntries r
def uptoBulkEntry {H : Type} : Lit × DataW H → Nat
  | (.string bytes, d) => bytes.length + uptoBulk d + 1
  | (_, d) => uptoBulk d + 1
 end
def uptoSmall : (H : Type) → List (DataW H) → Bool := fun _ ds => decide (uptoBulkAll ds ≤ 1048576)
def OpenSpec.upto (s : _root_.Go.ChangeSpec) : _root_.Go.OpenSpec := { _root_.Go.OpenSpec.ofChange s with cond := some uptoSmall }

/-- 'belfrylaw12.PaneOf', WHERE WHAT IT READS IS OF BULK AT MOST 1048576: true; the input reads as it did. -/
def paneOfUptoRow : OpenClaim := { program := "ytkhlpbipkkbghaa", sum := "f9544dbfc5c09436763f65f3b2a9c02f2e0d9e4aac2dd512fb6f7a1f5ed6ca7b", func := "belfry/belfrylaw12.PaneOf", spec := "paneOf", inPlace := ["math/bits.Add64"], unfollowed := true, recurses := true, apart := false, narrowed := true }
def PaneOfUptoSaid : Prop := paneOfUptoRow.holds Try.pinned (OpenSpec.upto paneOfSpec)

/-- 'belfrylaw12.PaneMerge', WHERE WHAT IT READS IS OF BULK AT MOST 1048576: true; the input reads as it did. -/
def paneMergeUptoRow : OpenClaim := { program := "ytkhlpbipkkbghaa", sum := "f9544dbfc5c09436763f65f3b2a9c02f2e0d9e4aac2dd512fb6f7a1f5ed6ca7b", func := "belfry/belfrylaw12.PaneMerge", spec := "paneMerge", inPlace := ["math/bits.Add64"], unfollowed := true, recurses := true, apart := false, narrowed := true }
def PaneMergeUptoSaid : Prop := paneMergeUptoRow.holds Try.pinned (OpenSpec.upto paneMergeSpec)

/-- 'belfrylaw12.PaneTurned', WHERE WHAT IT READS IS OF BULK AT MOST 1048576: true; the input reads as it did. -/
def paneTurnedUptoRow : OpenClaim := { program := "ytkhlpbipkkbghaa", sum := "f9544dbfc5c09436763f65f3b2a9c02f2e0d9e4aac2dd512fb6f7a1f5ed6ca7b", func := "belfry/belfrylaw12.PaneTurned", spec := "paneTurned", inPlace := ["math/bits.Add64"], unfollowed := true, recurses := true, apart := false, narrowed := true }
def PaneTurnedUptoSaid : Prop := paneTurnedUptoRow.holds Try.pinned (OpenSpec.upto paneTurnedSpec)

/-- 'belfrylaw12.PaneBounds', WHERE WHAT IT READS IS OF BULK AT MOST 1048576: true; the input reads as it did. -/
def paneBoundsUptoRow : OpenClaim := { program := "ytkhlpbipkkbghaa", sum := "f9544dbfc5c09436763f65f3b2a9c02f2e0d9e4aac2dd512fb6f7a1f5ed6ca7b", func := "belfry/belfrylaw12.PaneBounds", spec := "paneBounds", inPlace := ["math/bits.Add64"], unfollowed := true, recurses := true, apart := false, narrowed := true }
def PaneBoundsUptoSaid : Prop := paneBoundsUptoRow.holds Try.pinned (OpenSpec.upto paneBoundsSpec)

end Rows
end Go.Proofs.Ytkhlpbipkkbghaa
