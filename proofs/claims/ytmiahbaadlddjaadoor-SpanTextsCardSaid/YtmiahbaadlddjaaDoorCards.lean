/-
  DERIVED. GIVEN WITH THE SEED: THE CARDS: each row of YtmiahbaadlddjaaDoorRows.lean that lists a variable, with what it lists TIED to the program's text (the seventh form; the later family's looks); each row that meets fmt, with fmt's text TOLD by the authors' own Lean function (tested against real Go, not proved from fmt's source: count such statements apart). THE CARD IS WHAT COUNTS. Prove the row's statement (the work); the ties are given (YtmiahbaadlddjaaDoorTie.lean); close each card by the builder's one call (the guide's Derived/Test/ToyasCard.lean, 'card_holds'). Laid BY PROGRAM, IN A SANDBOX (cutbox-door.mjs). By AI agents, Wed Nov 11 2026. No macro, syntax, notation, axiom, sorry.
-/
import Derived.Test.YtmiahbaadlddjaaDoorRows
import GoSem.ClaimSeven
namespace Go.Proofs.YtmiahbaadlddjaaDoor
namespace Rows

/-- THE TIED CARD OF 'belfrylaw2.SpanTwo'. -/
def spanTwoCard : Claim7 := { stood := { row := spanTwoRow, standIns := [], harness := (true, "d669cced936c5cc6552f7e6d29f1feca6989f15fafb0f7c3b0153baad7d755fc"), looks := true }, kinds := [], alts := [], laidByText := true, laidKinds := [.data, .data, .data, .data, .sentinel, .sentinel, .pinned], laidTests := true, laidLooks := .later }
def SpanTwoCardSaid : Prop := Claim7.holds Tryd.pinned (.plain (OpenSpec.ofChange spanTwoSpec)) spanTwoCard

/-- THE TIED CARD OF 'belfrylaw2.SpanSteps'. -/
def spanStepsCard : Claim7 := { stood := { row := spanStepsRow, standIns := [], harness := (true, "d669cced936c5cc6552f7e6d29f1feca6989f15fafb0f7c3b0153baad7d755fc"), looks := true }, kinds := [], alts := [], laidByText := true, laidKinds := [.data, .data, .data, .data, .sentinel, .sentinel, .pinned], laidTests := true, laidLooks := .later }
def SpanStepsCardSaid : Prop := Claim7.holds Tryd.pinned (.plain (OpenSpec.ofChange spanStepsSpec)) spanStepsCard

/-- THE TIED CARD OF 'belfrylaw2.SpanTexts'. -/
def spanTextsCard : Claim7 := { stood := { row := spanTextsRow, standIns := [], harness := (true, "d669cced936c5cc6552f7e6d29f1feca6989f15fafb0f7c3b0153baad7d755fc"), looks := true }, kinds := [], alts := [], laidByText := true, laidKinds := [.data, .data, .data, .data, .sentinel, .sentinel, .pinned], laidTests := true, laidLooks := .later }
def SpanTextsCardSaid : Prop := Claim7.holds Tryd.pinned (.plain (OpenSpec.ofChange spanTextsSpec)) spanTextsCard

/-- THE TIED CARD OF 'belfrylaw2.SpanGrid'. -/
def spanGridCard : Claim7 := { stood := { row := spanGridRow, standIns := [], harness := (true, "d669cced936c5cc6552f7e6d29f1feca6989f15fafb0f7c3b0153baad7d755fc"), looks := true }, kinds := [], alts := [], laidByText := true, laidKinds := [.data, .data, .data, .data, .sentinel, .sentinel, .pinned], laidTests := true, laidLooks := .later }
def SpanGridCardSaid : Prop := Claim7.holds Tryd.pinned (.plain (OpenSpec.ofChange spanGridSpec)) spanGridCard

/-- THE TIED CARD OF 'belfrylaw2.SpanParts'. -/
def spanPartsCard : Claim7 := { stood := { row := spanPartsRow, standIns := [], harness := (true, "d669cced936c5cc6552f7e6d29f1feca6989f15fafb0f7c3b0153baad7d755fc"), looks := true }, kinds := [], alts := [], laidByText := true, laidKinds := [.data, .data, .data, .data, .sentinel, .sentinel, .pinned], laidTests := true, laidLooks := .later }
def SpanPartsCardSaid : Prop := Claim7.holds Tryd.pinned (.plain (OpenSpec.ofChange spanPartsSpec)) spanPartsCard

/-- THE SECOND FORM's CARD OF 'belfrylaw2.SpanTwo'. -/
def spanTwoUptoCard : Claim7 := { stood := { row := spanTwoUptoRow, standIns := [], harness := (true, "d669cced936c5cc6552f7e6d29f1feca6989f15fafb0f7c3b0153baad7d755fc"), looks := true }, kinds := [], alts := [], laidByText := true, laidKinds := [.data, .data, .data, .data, .sentinel, .sentinel, .pinned], laidTests := true, laidLooks := .later }
def SpanTwoUptoCardSaid : Prop := Claim7.holds Tryd.pinned (.plain (OpenSpec.upto spanTwoSpec)) spanTwoUptoCard

/-- THE SECOND FORM's CARD OF 'belfrylaw2.SpanSteps'. -/
def spanStepsUptoCard : Claim7 := { stood := { row := spanStepsUptoRow, standIns := [], harness := (true, "d669cced936c5cc6552f7e6d29f1feca6989f15fafb0f7c3b0153baad7d755fc"), looks := true }, kinds := [], alts := [], laidByText := true, laidKinds := [.data, .data, .data, .data, .sentinel, .sentinel, .pinned], laidTests := true, laidLooks := .later }
def SpanStepsUptoCardSaid : Prop := Claim7.holds Tryd.pinned (.plain (OpenSpec.upto spanStepsSpec)) spanStepsUptoCard

/-- THE SECOND FORM's CARD OF 'belfrylaw2.SpanTexts'. -/
def spanTextsUptoCard : Claim7 := { stood := { row := spanTextsUptoRow, standIns := [], harness := (true, "d669cced936c5cc6552f7e6d29f1feca6989f15fafb0f7c3b0153baad7d755fc"), looks := true }, kinds := [], alts := [], laidByText := true, laidKinds := [.data, .data, .data, .data, .sentinel, .sentinel, .pinned], laidTests := true, laidLooks := .later }
def SpanTextsUptoCardSaid : Prop := Claim7.holds Tryd.pinned (.plain (OpenSpec.upto spanTextsSpec)) spanTextsUptoCard

/-- THE SECOND FORM's CARD OF 'belfrylaw2.SpanGrid'. -/
def spanGridUptoCard : Claim7 := { stood := { row := spanGridUptoRow, standIns := [], harness := (true, "d669cced936c5cc6552f7e6d29f1feca6989f15fafb0f7c3b0153baad7d755fc"), looks := true }, kinds := [], alts := [], laidByText := true, laidKinds := [.data, .data, .data, .data, .sentinel, .sentinel, .pinned], laidTests := true, laidLooks := .later }
def SpanGridUptoCardSaid : Prop := Claim7.holds Tryd.pinned (.plain (OpenSpec.upto spanGridSpec)) spanGridUptoCard

/-- THE SECOND FORM's CARD OF 'belfrylaw2.SpanParts'. -/
def spanPartsUptoCard : Claim7 := { stood := { row := spanPartsUptoRow, standIns := [], harness := (true, "d669cced936c5cc6552f7e6d29f1feca6989f15fafb0f7c3b0153baad7d755fc"), looks := true }, kinds := [], alts := [], laidByText := true, laidKinds := [.data, .data, .data, .data, .sentinel, .sentinel, .pinned], laidTests := true, laidLooks := .later }
def SpanPartsUptoCardSaid : Prop := Claim7.holds Tryd.pinned (.plain (OpenSpec.upto spanPartsSpec)) spanPartsUptoCard
end Rows
end Go.Proofs.YtmiahbaadlddjaaDoor
