/-
  NARROWER THAN 'FOR EVERY INPUT', by the rows' own cells (each row's printed sentence says how): RegexAny: laid · RegexQuote: laid · RegexParts: laid · RegexTimes: laid · RegexSets: laid.
  DERIVED. THE GIVEN ROWS OF THIS SEAT. 5 by the template 'for every input the law returns true; each argument reads behind the call as it read before'; 0 by the template 'total and deterministic' (their statements: YtcfdpbbpdnpnnaaDoorTotals.lean).
  GIVEN WITH THE SEED: the statements are not yours to turn. If you find one false, say at which input.
  Laid BY PROGRAM, IN A SANDBOX (cutbox-rows.mjs): the forced cells as the released guide's own fill.sh prints them over the translation ff722dbe66c47153… (all of the seat's roots in one cut). By AI agents, Wed Nov 11 2026. No macro, syntax, notation, axiom, sorry.
-/
import Derived.Test.YtcfdpbbpdnpnnaaDoorChecked
import GoSem.Claim
import GoSem.ClaimJoined
import GoSem.ClaimMapViews
import Derived.JoinedTies
import Derived.KernelRfl
namespace Go.Proofs.YtcfdpbbpdnpnnaaDoor
/- THE CELL 'sum', in the pinned program and in every row, IS THE sha256 OF THE DUMP (.gsa) THAT YtcfdpbbpdnpnnaaDoorProg.lean LOADS. Nothing in Lean hashes anything: it is a label: what it is worth is what the hold of that sum in a sandbox is worth. -/
noncomputable def Tryd.pinned : Pinned := { name := "ytcfdpbbpdnpnnaadoor", sum := "ff722dbe66c47153f2b50bdefb8ddb4407dd06f35cd0385ea4cf64a3391a8f87", checked := Tryd.checked }
namespace Rows
def none {H : Type} : Left H := { results := [], args := [] }

/- WHAT THE LISTED PACKAGE-LEVEL VARIABLES READ AS WHEN THE CALL BEGINS. Each datum BY PROGRAM (the guide's laid-datum.mjs) off the statement by which the dump's own 'gosem.cut.vars' lays the variable. In a bare row this is a premise. The card (YtcfdpbbpdnpnnaaDoorCards.lean) ties it to the program's text. -/
def laid_math_bits_deBruijn64tab {H : Type} : DataW H := .agg [.lit (.int .u8 0), .lit (.int .u8 1), .lit (.int .u8 56), .lit (.int .u8 2), .lit (.int .u8 57), .lit (.int .u8 49), .lit (.int .u8 28), .lit (.int .u8 3), .lit (.int .u8 61), .lit (.int .u8 58), .lit (.int .u8 42), .lit (.int .u8 50), .lit (.int .u8 38), .lit (.int .u8 29), .lit (.int .u8 17), .lit (.int .u8 4), .lit (.int .u8 62), .lit (.int .u8 47), .lit (.int .u8 59), .lit (.int .u8 36), .lit (.int .u8 45), .lit (.int .u8 43), .lit (.int .u8 51), .lit (.int .u8 22), .lit (.int .u8 53), .lit (.int .u8 39), .lit (.int .u8 33), .lit (.int .u8 30), .lit (.int .u8 24), .lit (.int .u8 18), .lit (.int .u8 12), .lit (.int .u8 5), .lit (.int .u8 63), .lit (.int .u8 55), .lit (.int .u8 48), .lit (.int .u8 27), .lit (.int .u8 60), .lit (.int .u8 41), .lit (.int .u8 37), .lit (.int .u8 16), .lit (.int .u8 46), .lit (.int .u8 35), .lit (.int .u8 44), .lit (.int .u8 21), .lit (.int .u8 52), .lit (.int .u8 32), .lit (.int .u8 23), .lit (.int .u8 11), .lit (.int .u8 54), .lit (.int .u8 26), .lit (.int .u8 40), .lit (.int .u8 15), .lit (.int .u8 34), .lit (.int .u8 20), .lit (.int .u8 31), .lit (.int .u8 10), .lit (.int .u8 25), .lit (.int .u8 14), .lit (.int .u8 19), .lit (.int .u8 9), .lit (.int .u8 13), .lit (.int .u8 8), .lit (.int .u8 7), .lit (.int .u8 6)]

/-- 'belfrylaw4.RegexAny': WHATEVER THE INPUT: true; the input reads as it did. -/
def regexAnySpec : ChangeSpec := { name := "regexAny", fn := fun _ => fun
  | [d1, d2] => { results := [.lit (.bool true)], args := [d1, d2] }
  | _ => none }
def regexAnyRow : OpenClaim := { program := "ytcfdpbbpdnpnnaadoor", sum := "ff722dbe66c47153f2b50bdefb8ddb4407dd06f35cd0385ea4cf64a3391a8f87", func := "belfry/belfrylaw4.RegexAny", spec := "regexAny", inPlace := ["internal/bytealg.IndexByteString"], unfollowed := true, recurses := true, named := ["math/bits.deBruijn64tab"], apart := false, laid := [("math/bits.deBruijn64tab", laid_math_bits_deBruijn64tab)] }
def RegexAnySaid : Prop := regexAnyRow.holds Tryd.pinned (OpenSpec.ofChange regexAnySpec)

/-- ITS FALSE NEIGHBOUR: 'it returns false'. Refute it at one input. -/
def regexAnyWrong : ChangeSpec := { name := "regexAny", fn := fun _ => fun
  | [d1, d2] => { results := [.lit (.bool false)], args := [d1, d2] }
  | _ => none }
def RegexAnyWrongFalsely : Prop := regexAnyRow.holds Tryd.pinned (OpenSpec.ofChange regexAnyWrong)

/-- 'belfrylaw4.RegexQuote': WHATEVER THE INPUT: true; the input reads as it did. -/
def regexQuoteSpec : ChangeSpec := { name := "regexQuote", fn := fun _ => fun
  | [d1, d2] => { results := [.lit (.bool true)], args := [d1, d2] }
  | _ => none }
def regexQuoteRow : OpenClaim := { program := "ytcfdpbbpdnpnnaadoor", sum := "ff722dbe66c47153f2b50bdefb8ddb4407dd06f35cd0385ea4cf64a3391a8f87", func := "belfry/belfrylaw4.RegexQuote", spec := "regexQuote", inPlace := ["internal/bytealg.IndexByteString"], unfollowed := true, recurses := true, named := ["math/bits.deBruijn64tab"], apart := false, laid := [("math/bits.deBruijn64tab", laid_math_bits_deBruijn64tab)] }
def RegexQuoteSaid : Prop := regexQuoteRow.holds Tryd.pinned (OpenSpec.ofChange regexQuoteSpec)

/-- ITS FALSE NEIGHBOUR: 'it returns false'. Refute it at one input. -/
def regexQuoteWrong : ChangeSpec := { name := "regexQuote", fn := fun _ => fun
  | [d1, d2] => { results := [.lit (.bool false)], args := [d1, d2] }
  | _ => none }
def RegexQuoteWrongFalsely : Prop := regexQuoteRow.holds Tryd.pinned (OpenSpec.ofChange regexQuoteWrong)

/-- 'belfrylaw4.RegexParts': WHATEVER THE INPUT: true; the input reads as it did. -/
def regexPartsSpec : ChangeSpec := { name := "regexParts", fn := fun _ => fun
  | [d1, d2, d3] => { results := [.lit (.bool true)], args := [d1, d2, d3] }
  | _ => none }
def regexPartsRow : OpenClaim := { program := "ytcfdpbbpdnpnnaadoor", sum := "ff722dbe66c47153f2b50bdefb8ddb4407dd06f35cd0385ea4cf64a3391a8f87", func := "belfry/belfrylaw4.RegexParts", spec := "regexParts", inPlace := ["internal/bytealg.IndexByteString"], unfollowed := true, recurses := true, named := ["math/bits.deBruijn64tab"], apart := false, laid := [("math/bits.deBruijn64tab", laid_math_bits_deBruijn64tab)] }
def RegexPartsSaid : Prop := regexPartsRow.holds Tryd.pinned (OpenSpec.ofChange regexPartsSpec)

/-- ITS FALSE NEIGHBOUR: 'it returns false'. Refute it at one input. -/
def regexPartsWrong : ChangeSpec := { name := "regexParts", fn := fun _ => fun
  | [d1, d2, d3] => { results := [.lit (.bool false)], args := [d1, d2, d3] }
  | _ => none }
def RegexPartsWrongFalsely : Prop := regexPartsRow.holds Tryd.pinned (OpenSpec.ofChange regexPartsWrong)

/-- 'belfrylaw4.RegexTimes': WHATEVER THE INPUT: true; the input reads as it did. -/
def regexTimesSpec : ChangeSpec := { name := "regexTimes", fn := fun _ => fun
  | [d1, d2, d3] => { results := [.lit (.bool true)], args := [d1, d2, d3] }
  | _ => none }
def regexTimesRow : OpenClaim := { program := "ytcfdpbbpdnpnnaadoor", sum := "ff722dbe66c47153f2b50bdefb8ddb4407dd06f35cd0385ea4cf64a3391a8f87", func := "belfry/belfrylaw4.RegexTimes", spec := "regexTimes", inPlace := ["internal/bytealg.IndexByteString"], unfollowed := true, recurses := true, named := ["math/bits.deBruijn64tab"], apart := false, laid := [("math/bits.deBruijn64tab", laid_math_bits_deBruijn64tab)] }
def RegexTimesSaid : Prop := regexTimesRow.holds Tryd.pinned (OpenSpec.ofChange regexTimesSpec)

/-- ITS FALSE NEIGHBOUR: 'it returns false'. Refute it at one input. -/
def regexTimesWrong : ChangeSpec := { name := "regexTimes", fn := fun _ => fun
  | [d1, d2, d3] => { results := [.lit (.bool false)], args := [d1, d2, d3] }
  | _ => none }
def RegexTimesWrongFalsely : Prop := regexTimesRow.holds Tryd.pinned (OpenSpec.ofChange regexTimesWrong)

/-- 'belfrylaw4.RegexSets': WHATEVER THE INPUT: true; the input reads as it did. -/
def regexSetsSpec : ChangeSpec := { name := "regexSets", fn := fun _ => fun
  | [d1, d2, d3] => { results := [.lit (.bool true)], args := [d1, d2, d3] }
  | _ => none }
def regexSetsRow : OpenClaim := { program := "ytcfdpbbpdnpnnaadoor", sum := "ff722dbe66c47153f2b50bdefb8ddb4407dd06f35cd0385ea4cf64a3391a8f87", func := "belfry/belfrylaw4.RegexSets", spec := "regexSets", inPlace := ["internal/bytealg.IndexByteString"], unfollowed := true, recurses := true, named := ["math/bits.deBruijn64tab"], apart := false, laid := [("math/bits.deBruijn64tab", laid_math_bits_deBruijn64tab)] }
def RegexSetsSaid : Prop := regexSetsRow.holds Tryd.pinned (OpenSpec.ofChange regexSetsSpec)

/-- ITS FALSE NEIGHBOUR: 'it returns false'. Refute it at one input. -/
def regexSetsWrong : ChangeSpec := { name := "regexSets", fn := fun _ => fun
  | [d1, d2, d3] => { results := [.lit (.bool false)], args := [d1, d2, d3] }
  | _ => none }
def RegexSetsWrongFalsely : Prop := regexSetsRow.holds Tryd.pinned (OpenSpec.ofChange regexSetsWrong)

/- THE SECOND FORM. 'bulk': how many values and letters a reading holds, each counted each time it is reached (what is shared counts as often as it is met; a slice's spare places count too). A statement '..UptoSaid' is the law's where the arguments, and the package variables that the reading takes, are together of bulk at most 1048576: NARROWER than '..Said'. Prove '..Said' where nothing that the law and all that it calls make is longer than what came in: it says more and counts as full. Else prove '..UptoSaid'. A law counts once. -/
mutual
def uptoBulk {H : Type} : DataW H → Nat
  | .lit (.string bytes) => bytes.length + 1
  | .lit _ => 1
  | .nil => 1
  | .ptr d => uptoBulk d + 1
  | .slice elems spare => uptoBulkAll elems + uptoBulkAll spare + 1
  | .agg parts => uptoBulkAll parts + 1
  | .iface _ d => uptoBulk d + 1
  | .map entries => uptoBulkEntries entries + 1
  | .held _ => 1
def uptoBulkAll {H : Type} : List (DataW H) → Nat
  | [] => 0
  | d :: r => uptoBulk d + uptoBulkAll r
def uptoBulkEntries {H : Type} : List (Lit × DataW H) → Nat
  | [] => 0
  | x :: r => uptoBulkEntry x + uptoBulkEntries r
def uptoBulkEntry {H : Type} : Lit × DataW H → Nat
  | (.string bytes, d) => bytes.length + uptoBulk d + 1
  | (_, d) => uptoBulk d + 1
 end
def uptoSmall : (H : Type) → List (DataW H) → Bool := fun _ ds => decide (uptoBulkAll ds ≤ 1048576)
def OpenSpec.upto (s : _root_.Go.ChangeSpec) : _root_.Go.OpenSpec := { _root_.Go.OpenSpec.ofChange s with cond := some uptoSmall }

/-- 'belfrylaw4.RegexAny', WHERE WHAT IT READS IS OF BULK AT MOST 1048576: true; the input reads as it did. -/
def regexAnyUptoRow : OpenClaim := { program := "ytcfdpbbpdnpnnaadoor", sum := "ff722dbe66c47153f2b50bdefb8ddb4407dd06f35cd0385ea4cf64a3391a8f87", func := "belfry/belfrylaw4.RegexAny", spec := "regexAny", inPlace := ["internal/bytealg.IndexByteString"], unfollowed := true, recurses := true, named := ["math/bits.deBruijn64tab"], apart := false, laid := [("math/bits.deBruijn64tab", laid_math_bits_deBruijn64tab)], narrowed := true }
def RegexAnyUptoSaid : Prop := regexAnyUptoRow.holds Tryd.pinned (OpenSpec.upto regexAnySpec)

/-- 'belfrylaw4.RegexQuote', WHERE WHAT IT READS IS OF BULK AT MOST 1048576: true; the input reads as it did. -/
def regexQuoteUptoRow : OpenClaim := { program := "ytcfdpbbpdnpnnaadoor", sum := "ff722dbe66c47153f2b50bdefb8ddb4407dd06f35cd0385ea4cf64a3391a8f87", func := "belfry/belfrylaw4.RegexQuote", spec := "regexQuote", inPlace := ["internal/bytealg.IndexByteString"], unfollowed := true, recurses := true, named := ["math/bits.deBruijn64tab"], apart := false, laid := [("math/bits.deBruijn64tab", laid_math_bits_deBruijn64tab)], narrowed := true }
def RegexQuoteUptoSaid : Prop := regexQuoteUptoRow.holds Tryd.pinned (OpenSpec.upto regexQuoteSpec)

/-- 'belfrylaw4.RegexParts', WHERE WHAT IT READS IS OF BULK AT MOST 1048576: true; the input reads as it did. -/
def regexPartsUptoRow : OpenClaim := { program := "ytcfdpbbpdnpnnaadoor", sum := "ff722dbe66c47153f2b50bdefb8ddb4407dd06f35cd0385ea4cf64a3391a8f87", func := "belfry/belfrylaw4.RegexParts", spec := "regexParts", inPlace := ["internal/bytealg.IndexByteString"], unfollowed := true, recurses := true, named := ["math/bits.deBruijn64tab"], apart := false, laid := [("math/bits.deBruijn64tab", laid_math_bits_deBruijn64tab)], narrowed := true }
def RegexPartsUptoSaid : Prop := regexPartsUptoRow.holds Tryd.pinned (OpenSpec.upto regexPartsSpec)

/-- 'belfrylaw4.RegexTimes', WHERE WHAT IT READS IS OF BULK AT MOST 1048576: true; the input reads as it did. -/
def regexTimesUptoRow : OpenClaim := { program := "ytcfdpbbpdnpnnaadoor", sum := "ff722dbe66c47153f2b50bdefb8ddb4407dd06f35cd0385ea4cf64a3391a8f87", func := "belfry/belfrylaw4.RegexTimes", spec := "regexTimes", inPlace := ["internal/bytealg.IndexByteString"], unfollowed := true, recurses := true, named := ["math/bits.deBruijn64tab"], apart := false, laid := [("math/bits.deBruijn64tab", laid_math_bits_deBruijn64tab)], narrowed := true }
def RegexTimesUptoSaid : Prop := regexTimesUptoRow.holds Tryd.pinned (OpenSpec.upto regexTimesSpec)

/-- 'belfrylaw4.RegexSets', WHERE WHAT IT READS IS OF BULK AT MOST 1048576: true; the input reads as it did. -/
def regexSetsUptoRow : OpenClaim := { program := "ytcfdpbbpdnpnnaadoor", sum := "ff722dbe66c47153f2b50bdefb8ddb4407dd06f35cd0385ea4cf64a3391a8f87", func := "belfry/belfrylaw4.RegexSets", spec := "regexSets", inPlace := ["internal/bytealg.IndexByteString"], unfollowed := true, recurses := true, named := ["math/bits.deBruijn64tab"], apart := false, laid := [("math/bits.deBruijn64tab", laid_math_bits_deBruijn64tab)], narrowed := true }
def RegexSetsUptoSaid : Prop := regexSetsUptoRow.holds Tryd.pinned (OpenSpec.upto regexSetsSpec)

end Rows
end Go.Proofs.YtcfdpbbpdnpnnaaDoor
