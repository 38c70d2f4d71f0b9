/-
  DERIVED. GIVEN WITH THE SEED: THE CARDS: each row of YtnjiekkdpeogfaaDoorRows.lean that lists a variable, with what it lists TIED to the program's text (the seventh form; the later family's looks); each row that meets fmt, with fmt's text TOLD by the authors' own Lean function (tested against real Go, not proved from fmt's source: count such statements apart). THE CARD IS WHAT COUNTS. Prove the row's statement (the work); the ties are given (YtnjiekkdpeogfaaDoorTie.lean); close each card by the builder's one call (the guide's Derived/Test/ToyasCard.lean, 'card_holds'). Laid BY PROGRAM, IN A SANDBOX (cutbox-door.mjs). By AI agents, Wed Nov 11 2026. No macro, syntax, notation, axiom, sorry.
-/
import Derived.Test.YtnjiekkdpeogfaaDoorRows
import GoSem.ClaimSeven
namespace Go.Proofs.YtnjiekkdpeogfaaDoor
namespace Rows

/-- THE TIED CARD OF 'belfrylaw1.WideTwo'. -/
def wideTwoCard : Claim7 := { stood := { row := wideTwoRow, standIns := [], harness := (true, "78c7b2e7b66f25d1c4079357b091e0a2f8ea77b7cf7f50f05dc244d86cd7451c"), looks := false }, kinds := [], alts := [], laidByText := true, laidKinds := [.data, .data, .data, .data, .pinned], laidTests := true, laidLooks := .later }
def WideTwoCardSaid : Prop := Claim7.holds Tryd.pinned (.plain (OpenSpec.ofChange wideTwoSpec)) wideTwoCard

/-- THE TIED CARD OF 'belfrylaw1.WideMul'. -/
def wideMulCard : Claim7 := { stood := { row := wideMulRow, standIns := [], harness := (true, "78c7b2e7b66f25d1c4079357b091e0a2f8ea77b7cf7f50f05dc244d86cd7451c"), looks := false }, kinds := [], alts := [], laidByText := true, laidKinds := [.data, .data, .data, .data, .pinned], laidTests := true, laidLooks := .later }
def WideMulCardSaid : Prop := Claim7.holds Tryd.pinned (.plain (OpenSpec.ofChange wideMulSpec)) wideMulCard

/-- THE TIED CARD OF 'belfrylaw1.WideTexts'. -/
def wideTextsCard : Claim7 := { stood := { row := wideTextsRow, standIns := [], harness := (true, "78c7b2e7b66f25d1c4079357b091e0a2f8ea77b7cf7f50f05dc244d86cd7451c"), looks := false }, kinds := [], alts := [], laidByText := true, laidKinds := [.data, .data, .data, .data, .pinned], laidTests := true, laidLooks := .later }
def WideTextsCardSaid : Prop := Claim7.holds Tryd.pinned (.plain (OpenSpec.ofChange wideTextsSpec)) wideTextsCard

/-- THE TIED CARD OF 'belfrylaw1.WideRatio'. -/
def wideRatioCard : Claim7 := { stood := { row := wideRatioRow, standIns := [], harness := (true, "78c7b2e7b66f25d1c4079357b091e0a2f8ea77b7cf7f50f05dc244d86cd7451c"), looks := false }, kinds := [], alts := [], laidByText := true, laidKinds := [.data, .data, .data, .data, .pinned], laidTests := true, laidLooks := .later }
def WideRatioCardSaid : Prop := Claim7.holds Tryd.pinned (.plain (OpenSpec.ofChange wideRatioSpec)) wideRatioCard

/-- THE TIED CARD OF 'belfrylaw1.WideSum'. -/
def wideSumCard : Claim7 := { stood := { row := wideSumRow, standIns := [], harness := (true, "78c7b2e7b66f25d1c4079357b091e0a2f8ea77b7cf7f50f05dc244d86cd7451c"), looks := false }, kinds := [], alts := [], laidByText := true, laidKinds := [.data, .data, .data, .data, .pinned], laidTests := true, laidLooks := .later }
def WideSumCardSaid : Prop := Claim7.holds Tryd.pinned (.plain (OpenSpec.ofChange wideSumSpec)) wideSumCard

/-- THE TIED CARD OF 'belfrylaw1.WideNeg'. -/
def wideNegCard : Claim7 := { stood := { row := wideNegRow, standIns := [], harness := (true, "78c7b2e7b66f25d1c4079357b091e0a2f8ea77b7cf7f50f05dc244d86cd7451c"), looks := false }, kinds := [], alts := [], laidByText := true, laidKinds := [.data, .data, .data, .data, .pinned], laidTests := true, laidLooks := .later }
def WideNegCardSaid : Prop := Claim7.holds Tryd.pinned (.plain (OpenSpec.ofChange wideNegSpec)) wideNegCard

/-- THE TIED CARD OF 'belfrylaw1.WideOrder'. -/
def wideOrderCard : Claim7 := { stood := { row := wideOrderRow, standIns := [], harness := (true, "78c7b2e7b66f25d1c4079357b091e0a2f8ea77b7cf7f50f05dc244d86cd7451c"), looks := false }, kinds := [], alts := [], laidByText := true, laidKinds := [.data, .data, .data, .data, .pinned], laidTests := true, laidLooks := .later }
def WideOrderCardSaid : Prop := Claim7.holds Tryd.pinned (.plain (OpenSpec.ofChange wideOrderSpec)) wideOrderCard

/-- THE TIED CARD OF 'belfrylaw1.WideHalves'. -/
def wideHalvesCard : Claim7 := { stood := { row := wideHalvesRow, standIns := [], harness := (true, "78c7b2e7b66f25d1c4079357b091e0a2f8ea77b7cf7f50f05dc244d86cd7451c"), looks := false }, kinds := [], alts := [], laidByText := true, laidKinds := [.data, .data, .data, .data, .pinned], laidTests := true, laidLooks := .later }
def WideHalvesCardSaid : Prop := Claim7.holds Tryd.pinned (.plain (OpenSpec.ofChange wideHalvesSpec)) wideHalvesCard

/-- THE TIED CARD OF 'belfrylaw1.WideSwap'. -/
def wideSwapCard : Claim7 := { stood := { row := wideSwapRow, standIns := [], harness := (true, "78c7b2e7b66f25d1c4079357b091e0a2f8ea77b7cf7f50f05dc244d86cd7451c"), looks := false }, kinds := [], alts := [], laidByText := true, laidKinds := [.data, .data, .data, .data, .pinned], laidTests := true, laidLooks := .later }
def WideSwapCardSaid : Prop := Claim7.holds Tryd.pinned (.plain (OpenSpec.ofChange wideSwapSpec)) wideSwapCard

/-- THE SECOND FORM's CARD OF 'belfrylaw1.WideTwo'. -/
def wideTwoUptoCard : Claim7 := { stood := { row := wideTwoUptoRow, standIns := [], harness := (true, "78c7b2e7b66f25d1c4079357b091e0a2f8ea77b7cf7f50f05dc244d86cd7451c"), looks := false }, kinds := [], alts := [], laidByText := true, laidKinds := [.data, .data, .data, .data, .pinned], laidTests := true, laidLooks := .later }
def WideTwoUptoCardSaid : Prop := Claim7.holds Tryd.pinned (.plain (OpenSpec.upto wideTwoSpec)) wideTwoUptoCard

/-- THE SECOND FORM's CARD OF 'belfrylaw1.WideMul'. -/
def wideMulUptoCard : Claim7 := { stood := { row := wideMulUptoRow, standIns := [], harness := (true, "78c7b2e7b66f25d1c4079357b091e0a2f8ea77b7cf7f50f05dc244d86cd7451c"), looks := false }, kinds := [], alts := [], laidByText := true, laidKinds := [.data, .data, .data, .data, .pinned], laidTests := true, laidLooks := .later }
def WideMulUptoCardSaid : Prop := Claim7.holds Tryd.pinned (.plain (OpenSpec.upto wideMulSpec)) wideMulUptoCard

/-- THE SECOND FORM's CARD OF 'belfrylaw1.WideTexts'. -/
def wideTextsUptoCard : Claim7 := { stood := { row := wideTextsUptoRow, standIns := [], harness := (true, "78c7b2e7b66f25d1c4079357b091e0a2f8ea77b7cf7f50f05dc244d86cd7451c"), looks := false }, kinds := [], alts := [], laidByText := true, laidKinds := [.data, .data, .data, .data, .pinned], laidTests := true, laidLooks := .later }
def WideTextsUptoCardSaid : Prop := Claim7.holds Tryd.pinned (.plain (OpenSpec.upto wideTextsSpec)) wideTextsUptoCard

/-- THE SECOND FORM's CARD OF 'belfrylaw1.WideRatio'. -/
def wideRatioUptoCard : Claim7 := { stood := { row := wideRatioUptoRow, standIns := [], harness := (true, "78c7b2e7b66f25d1c4079357b091e0a2f8ea77b7cf7f50f05dc244d86cd7451c"), looks := false }, kinds := [], alts := [], laidByText := true, laidKinds := [.data, .data, .data, .data, .pinned], laidTests := true, laidLooks := .later }
def WideRatioUptoCardSaid : Prop := Claim7.holds Tryd.pinned (.plain (OpenSpec.upto wideRatioSpec)) wideRatioUptoCard

/-- THE SECOND FORM's CARD OF 'belfrylaw1.WideSum'. -/
def wideSumUptoCard : Claim7 := { stood := { row := wideSumUptoRow, standIns := [], harness := (true, "78c7b2e7b66f25d1c4079357b091e0a2f8ea77b7cf7f50f05dc244d86cd7451c"), looks := false }, kinds := [], alts := [], laidByText := true, laidKinds := [.data, .data, .data, .data, .pinned], laidTests := true, laidLooks := .later }
def WideSumUptoCardSaid : Prop := Claim7.holds Tryd.pinned (.plain (OpenSpec.upto wideSumSpec)) wideSumUptoCard

/-- THE SECOND FORM's CARD OF 'belfrylaw1.WideNeg'. -/
def wideNegUptoCard : Claim7 := { stood := { row := wideNegUptoRow, standIns := [], harness := (true, "78c7b2e7b66f25d1c4079357b091e0a2f8ea77b7cf7f50f05dc244d86cd7451c"), looks := false }, kinds := [], alts := [], laidByText := true, laidKinds := [.data, .data, .data, .data, .pinned], laidTests := true, laidLooks := .later }
def WideNegUptoCardSaid : Prop := Claim7.holds Tryd.pinned (.plain (OpenSpec.upto wideNegSpec)) wideNegUptoCard

/-- THE SECOND FORM's CARD OF 'belfrylaw1.WideOrder'. -/
def wideOrderUptoCard : Claim7 := { stood := { row := wideOrderUptoRow, standIns := [], harness := (true, "78c7b2e7b66f25d1c4079357b091e0a2f8ea77b7cf7f50f05dc244d86cd7451c"), looks := false }, kinds := [], alts := [], laidByText := true, laidKinds := [.data, .data, .data, .data, .pinned], laidTests := true, laidLooks := .later }
def WideOrderUptoCardSaid : Prop := Claim7.holds Tryd.pinned (.plain (OpenSpec.upto wideOrderSpec)) wideOrderUptoCard

/-- THE SECOND FORM's CARD OF 'belfrylaw1.WideHalves'. -/
def wideHalvesUptoCard : Claim7 := { stood := { row := wideHalvesUptoRow, standIns := [], harness := (true, "78c7b2e7b66f25d1c4079357b091e0a2f8ea77b7cf7f50f05dc244d86cd7451c"), looks := false }, kinds := [], alts := [], laidByText := true, laidKinds := [.data, .data, .data, .data, .pinned], laidTests := true, laidLooks := .later }
def WideHalvesUptoCardSaid : Prop := Claim7.holds Tryd.pinned (.plain (OpenSpec.upto wideHalvesSpec)) wideHalvesUptoCard

/-- THE SECOND FORM's CARD OF 'belfrylaw1.WideSwap'. -/
def wideSwapUptoCard : Claim7 := { stood := { row := wideSwapUptoRow, standIns := [], harness := (true, "78c7b2e7b66f25d1c4079357b091e0a2f8ea77b7cf7f50f05dc244d86cd7451c"), looks := false }, kinds := [], alts := [], laidByText := true, laidKinds := [.data, .data, .data, .data, .pinned], laidTests := true, laidLooks := .later }
def WideSwapUptoCardSaid : Prop := Claim7.holds Tryd.pinned (.plain (OpenSpec.upto wideSwapSpec)) wideSwapUptoCard
end Rows
end Go.Proofs.YtnjiekkdpeogfaaDoor
