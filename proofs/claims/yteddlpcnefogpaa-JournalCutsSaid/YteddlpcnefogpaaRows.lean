/-
  No cell of these rows narrows 'for every input' (looked for: loops, veiled, ifaces, maps, wideKeys, modest, calm, conditions, laid).
  DERIVED. THE GIVEN ROWS OF THIS SEAT. 5 by the template 'for every input the law returns true; each argument reads behind the call as it read before'; 0 by the template 'total and deterministic' (their statements: YteddlpcnefogpaaTotals.lean).
  GIVEN WITH THE SEED: the statements are not yours to turn. If you find one false, say at which input.
  Laid BY PROGRAM, IN A SANDBOX (cutbox-rows.mjs): the forced cells as the released guide's own fill.sh prints them over the translation 401467e1ad427480… (all of the seat's roots in one cut). By AI agents, Wed Nov 11 2026. No macro, syntax, notation, axiom, sorry.
-/
import Derived.Test.YteddlpcnefogpaaChecked
import GoSem.Claim
import GoSem.ClaimJoined
import GoSem.ClaimMapViews
import Derived.JoinedTies
import Derived.KernelRfl
namespace Go.Proofs.Yteddlpcnefogpaa
/- THE CELL 'sum', in the pinned program and in every row, IS THE sha256 OF THE DUMP (.gsa) THAT YteddlpcnefogpaaProg.lean LOADS. Nothing in Lean hashes anything: it is a label: what it is worth is what the hold of that sum in a sandbox is worth. -/
noncomputable def Try.pinned : Pinned := { name := "yteddlpcnefogpaa", sum := "401467e1ad427480bc6edec493ab5e53434bdc5ddd2de2d48e817500814aaab0", checked := Try.checked }
namespace Rows
def none {H : Type} : Left H := { results := [], args := [] }

/-- 'belfrylaw11.JournalBytes': WHATEVER THE INPUT: true; the input reads as it did. -/
def journalBytesSpec : ChangeSpec := { name := "journalBytes", fn := fun _ => fun
  | [d] => { results := [.lit (.bool true)], args := [d] }
  | _ => none }
def journalBytesRow : OpenClaim := { program := "yteddlpcnefogpaa", sum := "401467e1ad427480bc6edec493ab5e53434bdc5ddd2de2d48e817500814aaab0", func := "belfry/belfrylaw11.JournalBytes", spec := "journalBytes", unfollowed := true, recurses := true, apart := false }
def JournalBytesSaid : Prop := journalBytesRow.holds Try.pinned (OpenSpec.ofChange journalBytesSpec)

/-- ITS FALSE NEIGHBOUR: 'it returns false'. Refute it at one input. -/
def journalBytesWrong : ChangeSpec := { name := "journalBytes", fn := fun _ => fun
  | [d] => { results := [.lit (.bool false)], args := [d] }
  | _ => none }
def JournalBytesWrongFalsely : Prop := journalBytesRow.holds Try.pinned (OpenSpec.ofChange journalBytesWrong)

/-- 'belfrylaw11.JournalEncode': WHATEVER THE INPUT: true; the input reads as it did. -/
def journalEncodeSpec : ChangeSpec := { name := "journalEncode", fn := fun _ => fun
  | [d1, d2, d3] => { results := [.lit (.bool true)], args := [d1, d2, d3] }
  | _ => none }
def journalEncodeRow : OpenClaim := { program := "yteddlpcnefogpaa", sum := "401467e1ad427480bc6edec493ab5e53434bdc5ddd2de2d48e817500814aaab0", func := "belfry/belfrylaw11.JournalEncode", spec := "journalEncode", unfollowed := true, recurses := true, apart := false }
def JournalEncodeSaid : Prop := journalEncodeRow.holds Try.pinned (OpenSpec.ofChange journalEncodeSpec)

/-- ITS FALSE NEIGHBOUR: 'it returns false'. Refute it at one input. -/
def journalEncodeWrong : ChangeSpec := { name := "journalEncode", fn := fun _ => fun
  | [d1, d2, d3] => { results := [.lit (.bool false)], args := [d1, d2, d3] }
  | _ => none }
def JournalEncodeWrongFalsely : Prop := journalEncodeRow.holds Try.pinned (OpenSpec.ofChange journalEncodeWrong)

/-- 'belfrylaw11.JournalCuts': WHATEVER THE INPUT: true; the input reads as it did. -/
def journalCutsSpec : ChangeSpec := { name := "journalCuts", fn := fun _ => fun
  | [d1, d2, d3, d4] => { results := [.lit (.bool true)], args := [d1, d2, d3, d4] }
  | _ => none }
def journalCutsRow : OpenClaim := { program := "yteddlpcnefogpaa", sum := "401467e1ad427480bc6edec493ab5e53434bdc5ddd2de2d48e817500814aaab0", func := "belfry/belfrylaw11.JournalCuts", spec := "journalCuts", unfollowed := true, recurses := true, apart := false }
def JournalCutsSaid : Prop := journalCutsRow.holds Try.pinned (OpenSpec.ofChange journalCutsSpec)

/-- ITS FALSE NEIGHBOUR: 'it returns false'. Refute it at one input. -/
def journalCutsWrong : ChangeSpec := { name := "journalCuts", fn := fun _ => fun
  | [d1, d2, d3, d4] => { results := [.lit (.bool false)], args := [d1, d2, d3, d4] }
  | _ => none }
def JournalCutsWrongFalsely : Prop := journalCutsRow.holds Try.pinned (OpenSpec.ofChange journalCutsWrong)

/-- 'belfrylaw11.JournalSnaps': WHATEVER THE INPUT: true; the input reads as it did. -/
def journalSnapsSpec : ChangeSpec := { name := "journalSnaps", fn := fun _ => fun
  | [d1, d2] => { results := [.lit (.bool true)], args := [d1, d2] }
  | _ => none }
def journalSnapsRow : OpenClaim := { program := "yteddlpcnefogpaa", sum := "401467e1ad427480bc6edec493ab5e53434bdc5ddd2de2d48e817500814aaab0", func := "belfry/belfrylaw11.JournalSnaps", spec := "journalSnaps", unfollowed := true, recurses := true, apart := false }
def JournalSnapsSaid : Prop := journalSnapsRow.holds Try.pinned (OpenSpec.ofChange journalSnapsSpec)

/-- ITS FALSE NEIGHBOUR: 'it returns false'. Refute it at one input. -/
def journalSnapsWrong : ChangeSpec := { name := "journalSnaps", fn := fun _ => fun
  | [d1, d2] => { results := [.lit (.bool false)], args := [d1, d2] }
  | _ => none }
def JournalSnapsWrongFalsely : Prop := journalSnapsRow.holds Try.pinned (OpenSpec.ofChange journalSnapsWrong)

/-- 'belfrylaw11.JournalFront': WHATEVER THE INPUT: true; the input reads as it did. -/
def journalFrontSpec : ChangeSpec := { name := "journalFront", fn := fun _ => fun
  | [d1, d2] => { results := [.lit (.bool true)], args := [d1, d2] }
  | _ => none }
def journalFrontRow : OpenClaim := { program := "yteddlpcnefogpaa", sum := "401467e1ad427480bc6edec493ab5e53434bdc5ddd2de2d48e817500814aaab0", func := "belfry/belfrylaw11.JournalFront", spec := "journalFront", unfollowed := true, recurses := true, apart := false }
def JournalFrontSaid : Prop := journalFrontRow.holds Try.pinned (OpenSpec.ofChange journalFrontSpec)

/-- ITS FALSE NEIGHBOUR: 'it returns false'. Refute it at one input. -/
def journalFrontWrong : ChangeSpec := { name := "journalFront", fn := fun _ => fun
  | [d1, d2] => { results := [.lit (.bool false)], args := [d1, d2] }
  | _ => none }
def JournalFrontWrongFalsely : Prop := journalFrontRow.holds Try.pinned (OpenSpec.ofChange journalFrontWrong)

/- THE SECOND FORM. 'bulk': how many values and letters a reading holds, each counted each time it is reached (what is shared counts as often as it is met; a slice's spare places count too). A statement '..UptoSaid' is the law's where the arguments, and the package variables that the reading takes, are together of bulk at most 1048576: NARROWER than '..Said'. Prove '..Said' where nothing that the law and all that it calls make is longer than what came in: it says more and counts as full. Else prove '..UptoSaid'. A law counts once. -/
mutual
def uptoBulk {H : Type} : DataW H → Nat
  | .lit (.string bytes) => bytes.length + 1
  | .lit _ => 1
  | .nil => 1
  | .ptr d => uptoBulk d + 1
  | .slice elems spare => uptoBulkAll elems + uptoBulkAll spare + 1
  | .agg parts => uptoBulkAll parts + 1
  | .iface _ d => uptoBulk d + 1
  | .map entries => uptoBulkEntries entries + 1
  | .held _ => 1
def uptoBulkAll {H : Type} : List (DataW H) → Nat
  | [] => 0
  | d :: r => uptoBulk d + uptoBulkAll r
def uptoBulkEntries {H : Type} : List (Lit × DataW H) → Nat
  | [] => 0
  | x :: r => uptoBulkEntry x + uptoBulkEntries r
def uptoBulkEntry {H : Type} : Lit × DataW H → Nat
  | (.string bytes, d) => bytes.length + uptoBulk d + 1
  | (_, d) => uptoBulk d + 1
 end
def uptoSmall : (H : Type) → List (DataW H) → Bool := fun _ ds => decide (uptoBulkAll ds ≤ 1048576)
def OpenSpec.upto (s : _root_.Go.ChangeSpec) : _root_.Go.OpenSpec := { _root_.Go.OpenSpec.ofChange s with cond := some uptoSmall }

/-- 'belfrylaw11.JournalBytes', WHERE WHAT IT READS IS OF BULK AT MOST 1048576: true; the input reads as it did. -/
def journalBytesUptoRow : OpenClaim := { program := "yteddlpcnefogpaa", sum := "401467e1ad427480bc6edec493ab5e53434bdc5ddd2de2d48e817500814aaab0", func := "belfry/belfrylaw11.JournalBytes", spec := "journalBytes", unfollowed := true, recurses := true, apart := false, narrowed := true }
def JournalBytesUptoSaid : Prop := journalBytesUptoRow.holds Try.pinned (OpenSpec.upto journalBytesSpec)

/-- 'belfrylaw11.JournalEncode', WHERE WHAT IT READS IS OF BULK AT MOST 1048576: true; the input reads as it did. -/
def journalEncodeUptoRow : OpenClaim := { program := "yteddlpcnefogpaa", sum := "401467e1ad427480bc6edec493ab5e53434bdc5ddd2de2d48e817500814aaab0", func := "belfry/belfrylaw11.JournalEncode", spec := "journalEncode", unfollowed := true, recurses := true, apart := false, narrowed := true }
def JournalEncodeUptoSaid : Prop := journalEncodeUptoRow.holds Try.pinned (OpenSpec.upto journalEncodeSpec)

/-- 'belfrylaw11.JournalCuts', WHERE WHAT IT READS IS OF BULK AT MOST 1048576: true; the input reads as it did. -/
def journalCutsUptoRow : OpenClaim := { program := "yteddlpcnefogpaa", sum := "401467e1ad427480bc6edec493ab5e53434bdc5ddd2de2d48e817500814aaab0", func := "belfry/belfrylaw11.JournalCuts", spec := "journalCuts", unfollowed := true, recurses := true, apart := false, narrowed := true }
def JournalCutsUptoSaid : Prop := journalCutsUptoRow.holds Try.pinned (OpenSpec.upto journalCutsSpec)

/-- 'belfrylaw11.JournalSnaps', WHERE WHAT IT READS IS OF BULK AT MOST 1048576: true; the input reads as it did. -/
def journalSnapsUptoRow : OpenClaim := { program := "yteddlpcnefogpaa", sum := "401467e1ad427480bc6edec493ab5e53434bdc5ddd2de2d48e817500814aaab0", func := "belfry/belfrylaw11.JournalSnaps", spec := "journalSnaps", unfollowed := true, recurses := true, apart := false, narrowed := true }
def JournalSnapsUptoSaid : Prop := journalSnapsUptoRow.holds Try.pinned (OpenSpec.upto journalSnapsSpec)

/-- 'belfrylaw11.JournalFront', WHERE WHAT IT READS IS OF BULK AT MOST 1048576: true; the input reads as it did. -/
def journalFrontUptoRow : OpenClaim := { program := "yteddlpcnefogpaa", sum := "401467e1ad427480bc6edec493ab5e53434bdc5ddd2de2d48e817500814aaab0", func := "belfry/belfrylaw11.JournalFront", spec := "journalFront", unfollowed := true, recurses := true, apart := false, narrowed := true }
def JournalFrontUptoSaid : Prop := journalFrontUptoRow.holds Try.pinned (OpenSpec.upto journalFrontSpec)

end Rows
end Go.Proofs.Yteddlpcnefogpaa
