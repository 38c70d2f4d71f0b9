/-
  NARROWER THAN 'FOR EVERY INPUT', by the rows' own cells (each row's printed sentence says how): LabelAny: laid · LabelParts: laid · LabelWith: laid · LabelSplit: laid · LabelShards: laid.
  DERIVED. THE GIVEN ROWS OF THIS SEAT. 5 by the template 'for every input the law returns true; each argument reads behind the call as it read before'; 0 by the template 'total and deterministic' (their statements: YtmcmgmpgmbljiaaDoorTotals.lean).
  GIVEN WITH THE SEED: the statements are not yours to turn. If you find one false, say at which input.
  Laid BY PROGRAM, IN A SANDBOX (cutbox-rows.mjs): the forced cells as the released guide's own fill.sh prints them over the translation b2b9445b885c2ba7… (all of the seat's roots in one cut). By AI agents, Wed Nov 11 2026. No macro, syntax, notation, axiom, sorry.
-/
import Derived.Test.YtmcmgmpgmbljiaaDoorChecked
import GoSem.PinnedTables
import GoSem.Claim
import GoSem.ClaimJoined
import GoSem.ClaimMapViews
import Derived.JoinedTies
import Derived.KernelRfl
namespace Go.Proofs.YtmcmgmpgmbljiaaDoor
/- THE CELL 'sum', in the pinned program and in every row, IS THE sha256 OF THE DUMP (.gsa) THAT YtmcmgmpgmbljiaaDoorProg.lean LOADS. Nothing in Lean hashes anything: it is a label: what it is worth is what the hold of that sum in a sandbox is worth. -/
noncomputable def Tryd.pinned : Pinned := { name := "ytmcmgmpgmbljiaadoor", sum := "b2b9445b885c2ba75abdf8a05080b04a00e9b5e60b7a28fafad6a172c78fe2d7", checked := Tryd.checked }
namespace Rows
def none {H : Type} : Left H := { results := [], args := [] }

/- WHAT THE LISTED PACKAGE-LEVEL VARIABLES READ AS WHEN THE CALL BEGINS. Each datum BY PROGRAM (the guide's laid-datum.mjs) off the statement by which the dump's own 'gosem.cut.vars' lays the variable. In a bare row this is a premise. The card (YtmcmgmpgmbljiaaDoorCards.lean) ties it to the program's text. -/
def laid_unicode_utf8_acceptRanges {H : Type} : DataW H := .agg [.agg [.lit (.int .u8 128), .lit (.int .u8 191)], .agg [.lit (.int .u8 160), .lit (.int .u8 191)], .agg [.lit (.int .u8 128), .lit (.int .u8 159)], .agg [.lit (.int .u8 144), .lit (.int .u8 191)], .agg [.lit (.int .u8 128), .lit (.int .u8 143)], .agg [.lit (.int .u8 0), .lit (.int .u8 0)], .agg [.lit (.int .u8 0), .lit (.int .u8 0)], .agg [.lit (.int .u8 0), .lit (.int .u8 0)], .agg [.lit (.int .u8 0), .lit (.int .u8 0)], .agg [.lit (.int .u8 0), .lit (.int .u8 0)], .agg [.lit (.int .u8 0), .lit (.int .u8 0)], .agg [.lit (.int .u8 0), .lit (.int .u8 0)], .agg [.lit (.int .u8 0), .lit (.int .u8 0)], .agg [.lit (.int .u8 0), .lit (.int .u8 0)], .agg [.lit (.int .u8 0), .lit (.int .u8 0)], .agg [.lit (.int .u8 0), .lit (.int .u8 0)]]
/-- One of Go's own tables, pinned by name: the form's constant. -/
def laid_unicode_utf8_first : DataW Unit := Go.Pinned.utf8First

/-- 'belfrylaw3.LabelAny': WHATEVER THE INPUT: true; the input reads as it did. -/
def labelAnySpec : ChangeSpec := { name := "labelAny", fn := fun _ => fun
  | [d1, d2, d3] => { results := [.lit (.bool true)], args := [d1, d2, d3] }
  | _ => none }
def labelAnyRow : OpenClaim := { program := "ytmcmgmpgmbljiaadoor", sum := "b2b9445b885c2ba75abdf8a05080b04a00e9b5e60b7a28fafad6a172c78fe2d7", func := "belfry/belfrylaw3.LabelAny", spec := "labelAny", inPlace := ["slices.overlaps[belfry/label.Label]", "internal/bytealg.IndexByteString", "internal/bytealg.IndexString"], unfollowed := true, recurses := true, named := ["unicode/utf8.first", "unicode/utf8.acceptRanges", "internal/bytealg.MaxLen"], apart := false, laid := [("unicode/utf8.acceptRanges", laid_unicode_utf8_acceptRanges), ("unicode/utf8.first", laid_unicode_utf8_first)] }
def LabelAnySaid : Prop := labelAnyRow.holds Tryd.pinned (OpenSpec.ofChange labelAnySpec)

/-- ITS FALSE NEIGHBOUR: 'it returns false'. Refute it at one input. -/
def labelAnyWrong : ChangeSpec := { name := "labelAny", fn := fun _ => fun
  | [d1, d2, d3] => { results := [.lit (.bool false)], args := [d1, d2, d3] }
  | _ => none }
def LabelAnyWrongFalsely : Prop := labelAnyRow.holds Tryd.pinned (OpenSpec.ofChange labelAnyWrong)

/-- 'belfrylaw3.LabelParts': WHATEVER THE INPUT: true; the input reads as it did. -/
def labelPartsSpec : ChangeSpec := { name := "labelParts", fn := fun _ => fun
  | [d1, d2, d3, d4] => { results := [.lit (.bool true)], args := [d1, d2, d3, d4] }
  | _ => none }
def labelPartsRow : OpenClaim := { program := "ytmcmgmpgmbljiaadoor", sum := "b2b9445b885c2ba75abdf8a05080b04a00e9b5e60b7a28fafad6a172c78fe2d7", func := "belfry/belfrylaw3.LabelParts", spec := "labelParts", inPlace := ["slices.overlaps[belfry/label.Label]", "internal/bytealg.IndexByteString", "internal/bytealg.IndexString"], unfollowed := true, recurses := true, named := ["unicode/utf8.first", "unicode/utf8.acceptRanges", "internal/bytealg.MaxLen"], apart := false, laid := [("unicode/utf8.acceptRanges", laid_unicode_utf8_acceptRanges), ("unicode/utf8.first", laid_unicode_utf8_first)] }
def LabelPartsSaid : Prop := labelPartsRow.holds Tryd.pinned (OpenSpec.ofChange labelPartsSpec)

/-- ITS FALSE NEIGHBOUR: 'it returns false'. Refute it at one input. -/
def labelPartsWrong : ChangeSpec := { name := "labelParts", fn := fun _ => fun
  | [d1, d2, d3, d4] => { results := [.lit (.bool false)], args := [d1, d2, d3, d4] }
  | _ => none }
def LabelPartsWrongFalsely : Prop := labelPartsRow.holds Tryd.pinned (OpenSpec.ofChange labelPartsWrong)

/-- 'belfrylaw3.LabelWith': WHATEVER THE INPUT: true; the input reads as it did. -/
def labelWithSpec : ChangeSpec := { name := "labelWith", fn := fun _ => fun
  | [d1, d2, d3] => { results := [.lit (.bool true)], args := [d1, d2, d3] }
  | _ => none }
def labelWithRow : OpenClaim := { program := "ytmcmgmpgmbljiaadoor", sum := "b2b9445b885c2ba75abdf8a05080b04a00e9b5e60b7a28fafad6a172c78fe2d7", func := "belfry/belfrylaw3.LabelWith", spec := "labelWith", inPlace := ["slices.overlaps[belfry/label.Label]", "internal/bytealg.IndexByteString", "internal/bytealg.IndexString"], unfollowed := true, recurses := true, named := ["unicode/utf8.first", "unicode/utf8.acceptRanges", "internal/bytealg.MaxLen"], apart := false, laid := [("unicode/utf8.acceptRanges", laid_unicode_utf8_acceptRanges), ("unicode/utf8.first", laid_unicode_utf8_first)] }
def LabelWithSaid : Prop := labelWithRow.holds Tryd.pinned (OpenSpec.ofChange labelWithSpec)

/-- ITS FALSE NEIGHBOUR: 'it returns false'. Refute it at one input. -/
def labelWithWrong : ChangeSpec := { name := "labelWith", fn := fun _ => fun
  | [d1, d2, d3] => { results := [.lit (.bool false)], args := [d1, d2, d3] }
  | _ => none }
def LabelWithWrongFalsely : Prop := labelWithRow.holds Tryd.pinned (OpenSpec.ofChange labelWithWrong)

/-- 'belfrylaw3.LabelSplit': WHATEVER THE INPUT: true; the input reads as it did. -/
def labelSplitSpec : ChangeSpec := { name := "labelSplit", fn := fun _ => fun
  | [d1, d2] => { results := [.lit (.bool true)], args := [d1, d2] }
  | _ => none }
def labelSplitRow : OpenClaim := { program := "ytmcmgmpgmbljiaadoor", sum := "b2b9445b885c2ba75abdf8a05080b04a00e9b5e60b7a28fafad6a172c78fe2d7", func := "belfry/belfrylaw3.LabelSplit", spec := "labelSplit", inPlace := ["slices.overlaps[belfry/label.Label]", "internal/bytealg.IndexByteString", "internal/bytealg.IndexString"], unfollowed := true, recurses := true, named := ["unicode/utf8.first", "unicode/utf8.acceptRanges", "internal/bytealg.MaxLen"], apart := false, laid := [("unicode/utf8.acceptRanges", laid_unicode_utf8_acceptRanges), ("unicode/utf8.first", laid_unicode_utf8_first)] }
def LabelSplitSaid : Prop := labelSplitRow.holds Tryd.pinned (OpenSpec.ofChange labelSplitSpec)

/-- ITS FALSE NEIGHBOUR: 'it returns false'. Refute it at one input. -/
def labelSplitWrong : ChangeSpec := { name := "labelSplit", fn := fun _ => fun
  | [d1, d2] => { results := [.lit (.bool false)], args := [d1, d2] }
  | _ => none }
def LabelSplitWrongFalsely : Prop := labelSplitRow.holds Tryd.pinned (OpenSpec.ofChange labelSplitWrong)

/-- 'belfrylaw3.LabelShards': WHATEVER THE INPUT: true; the input reads as it did. -/
def labelShardsSpec : ChangeSpec := { name := "labelShards", fn := fun _ => fun
  | [d1, d2] => { results := [.lit (.bool true)], args := [d1, d2] }
  | _ => none }
def labelShardsRow : OpenClaim := { program := "ytmcmgmpgmbljiaadoor", sum := "b2b9445b885c2ba75abdf8a05080b04a00e9b5e60b7a28fafad6a172c78fe2d7", func := "belfry/belfrylaw3.LabelShards", spec := "labelShards", inPlace := ["slices.overlaps[belfry/label.Label]", "internal/bytealg.IndexByteString", "internal/bytealg.IndexString"], unfollowed := true, recurses := true, named := ["unicode/utf8.first", "unicode/utf8.acceptRanges", "internal/bytealg.MaxLen"], apart := false, laid := [("unicode/utf8.acceptRanges", laid_unicode_utf8_acceptRanges), ("unicode/utf8.first", laid_unicode_utf8_first)] }
def LabelShardsSaid : Prop := labelShardsRow.holds Tryd.pinned (OpenSpec.ofChange labelShardsSpec)

/-- ITS FALSE NEIGHBOUR: 'it returns false'. Refute it at one input. -/
def labelShardsWrong : ChangeSpec := { name := "labelShards", fn := fun _ => fun
  | [d1, d2] => { results := [.lit (.bool false)], args := [d1, d2] }
  | _ => none }
def LabelShardsWrongFalsely : Prop := labelShardsRow.holds Tryd.pinned (OpenSpec.ofChange labelShardsWrong)

/- THE SECOND FORM. 'bulk': how many values and letters a reading holds, each counted each time it is reached (what is shared counts as often as it is met; a slice's spare places count too). A statement '..UptoSaid' is the law's where the arguments, and the package variables that the reading takes, are together of bulk at most 1048576: NARROWER than '..Said'. Prove '..Said' where nothing that the law and all that it calls make is longer than what came in: it says more and counts as full. Else prove '..UptoSaid'. A law counts once. -/
mutual
def uptoBulk {H : Type} : DataW H → Nat
  | .lit (.string bytes) => bytes.length + 1
  | .lit _ => 1
  | .nil => 1
  | .ptr d => uptoBulk d + 1
  | .slice elems spare => uptoBulkAll elems + uptoBulkAll spare + 1
  | .agg parts => uptoBulkAll parts + 1
  | .iface _ d => uptoBulk d + 1
  | .map entries => uptoBulkEntries entries + 1
  | .held _ => 1
def uptoBulkAll {H : Type} : List (DataW H) → Nat
  | [] => 0
  | d :: r => uptoBulk d + uptoBulkAll r
def uptoBulkEntries {H : Type} : List (Lit × DataW H) → Nat
  | [] => 0
  | x :: r => uptoBulkEntry x + uptoBulkEntries r
def uptoBulkEntry {H : Type} : Lit × DataW H → Nat
  | (.string bytes, d) => bytes.length + uptoBulk d + 1
  | (_, d) => uptoBulk d + 1
 end
def uptoSmall : (H : Type) → List (DataW H) → Bool := fun _ ds => decide (uptoBulkAll ds ≤ 1048576)
def OpenSpec.upto (s : _root_.Go.ChangeSpec) : _root_.Go.OpenSpec := { _root_.Go.OpenSpec.ofChange s with cond := some uptoSmall }

/-- 'belfrylaw3.LabelAny', WHERE WHAT IT READS IS OF BULK AT MOST 1048576: true; the input reads as it did. -/
def labelAnyUptoRow : OpenClaim := { program := "ytmcmgmpgmbljiaadoor", sum := "b2b9445b885c2ba75abdf8a05080b04a00e9b5e60b7a28fafad6a172c78fe2d7", func := "belfry/belfrylaw3.LabelAny", spec := "labelAny", inPlace := ["slices.overlaps[belfry/label.Label]", "internal/bytealg.IndexByteString", "internal/bytealg.IndexString"], unfollowed := true, recurses := true, named := ["unicode/utf8.first", "unicode/utf8.acceptRanges", "internal/bytealg.MaxLen"], apart := false, laid := [("unicode/utf8.acceptRanges", laid_unicode_utf8_acceptRanges), ("unicode/utf8.first", laid_unicode_utf8_first)], narrowed := true }
def LabelAnyUptoSaid : Prop := labelAnyUptoRow.holds Tryd.pinned (OpenSpec.upto labelAnySpec)

/-- 'belfrylaw3.LabelParts', WHERE WHAT IT READS IS OF BULK AT MOST 1048576: true; the input reads as it did. -/
def labelPartsUptoRow : OpenClaim := { program := "ytmcmgmpgmbljiaadoor", sum := "b2b9445b885c2ba75abdf8a05080b04a00e9b5e60b7a28fafad6a172c78fe2d7", func := "belfry/belfrylaw3.LabelParts", spec := "labelParts", inPlace := ["slices.overlaps[belfry/label.Label]", "internal/bytealg.IndexByteString", "internal/bytealg.IndexString"], unfollowed := true, recurses := true, named := ["unicode/utf8.first", "unicode/utf8.acceptRanges", "internal/bytealg.MaxLen"], apart := false, laid := [("unicode/utf8.acceptRanges", laid_unicode_utf8_acceptRanges), ("unicode/utf8.first", laid_unicode_utf8_first)], narrowed := true }
def LabelPartsUptoSaid : Prop := labelPartsUptoRow.holds Tryd.pinned (OpenSpec.upto labelPartsSpec)

/-- 'belfrylaw3.LabelWith', WHERE WHAT IT READS IS OF BULK AT MOST 1048576: true; the input reads as it did. -/
def labelWithUptoRow : OpenClaim := { program := "ytmcmgmpgmbljiaadoor", sum := "b2b9445b885c2ba75abdf8a05080b04a00e9b5e60b7a28fafad6a172c78fe2d7", func := "belfry/belfrylaw3.LabelWith", spec := "labelWith", inPlace := ["slices.overlaps[belfry/label.Label]", "internal/bytealg.IndexByteString", "internal/bytealg.IndexString"], unfollowed := true, recurses := true, named := ["unicode/utf8.first", "unicode/utf8.acceptRanges", "internal/bytealg.MaxLen"], apart := false, laid := [("unicode/utf8.acceptRanges", laid_unicode_utf8_acceptRanges), ("unicode/utf8.first", laid_unicode_utf8_first)], narrowed := true }
def LabelWithUptoSaid : Prop := labelWithUptoRow.holds Tryd.pinned (OpenSpec.upto labelWithSpec)

/-- 'belfrylaw3.LabelSplit', WHERE WHAT IT READS IS OF BULK AT MOST 1048576: true; the input reads as it did. -/
def labelSplitUptoRow : OpenClaim := { program := "ytmcmgmpgmbljiaadoor", sum := "b2b9445b885c2ba75abdf8a05080b04a00e9b5e60b7a28fafad6a172c78fe2d7", func := "belfry/belfrylaw3.LabelSplit", spec := "labelSplit", inPlace := ["slices.overlaps[belfry/label.Label]", "internal/bytealg.IndexByteString", "internal/bytealg.IndexString"], unfollowed := true, recurses := true, named := ["unicode/utf8.first", "unicode/utf8.acceptRanges", "internal/bytealg.MaxLen"], apart := false, laid := [("unicode/utf8.acceptRanges", laid_unicode_utf8_acceptRanges), ("unicode/utf8.first", laid_unicode_utf8_first)], narrowed := true }
def LabelSplitUptoSaid : Prop := labelSplitUptoRow.holds Tryd.pinned (OpenSpec.upto labelSplitSpec)

/-- 'belfrylaw3.LabelShards', WHERE WHAT IT READS IS OF BULK AT MOST 1048576: true; the input reads as it did. -/
def labelShardsUptoRow : OpenClaim := { program := "ytmcmgmpgmbljiaadoor", sum := "b2b9445b885c2ba75abdf8a05080b04a00e9b5e60b7a28fafad6a172c78fe2d7", func := "belfry/belfrylaw3.LabelShards", spec := "labelShards", inPlace := ["slices.overlaps[belfry/label.Label]", "internal/bytealg.IndexByteString", "internal/bytealg.IndexString"], unfollowed := true, recurses := true, named := ["unicode/utf8.first", "unicode/utf8.acceptRanges", "internal/bytealg.MaxLen"], apart := false, laid := [("unicode/utf8.acceptRanges", laid_unicode_utf8_acceptRanges), ("unicode/utf8.first", laid_unicode_utf8_first)], narrowed := true }
def LabelShardsUptoSaid : Prop := labelShardsUptoRow.holds Tryd.pinned (OpenSpec.upto labelShardsSpec)

end Rows
end Go.Proofs.YtmcmgmpgmbljiaaDoor
