/-
  DERIVED. GIVEN WITH THE SEED: THE CARDS: each row of YtmggiclikbacjaaDoorRows.lean that lists a variable, with what it lists TIED to the program's text (the seventh form; the later family's looks); each row that meets fmt, with fmt's text TOLD by the authors' own Lean function (tested against real Go, not proved from fmt's source: count such statements apart). THE CARD IS WHAT COUNTS. Prove the row's statement (the work); the ties are given (YtmggiclikbacjaaDoorTie.lean); close each card by the builder's one call (the guide's Derived/Test/ToyasCard.lean, 'card_holds'). Laid BY PROGRAM, IN A SANDBOX (cutbox-door.mjs). By AI agents, Wed Nov 11 2026. No macro, syntax, notation, axiom, sorry.
-/
import Derived.Test.YtmggiclikbacjaaDoorRows
import GoSem.ClaimSeven
namespace Go.Proofs.YtmggiclikbacjaaDoor
namespace Rows

/-- THE TIED CARD OF 'belfrylaw1.WideTwo'. -/
def wideTwoCard : Claim7 := { stood := { row := wideTwoRow, standIns := [], harness := (true, "997790bb7d0970d5daff195434f3fed67825d5c96cd1d917d2643199604d9de5"), looks := false }, kinds := [], alts := [], laidByText := true, laidKinds := [.data, .data, .data, .data, .pinned], laidTests := true, laidLooks := .later }
def WideTwoCardSaid : Prop := Claim7.holds Tryd.pinned (.plain (OpenSpec.ofChange wideTwoSpec)) wideTwoCard

/-- THE TIED CARD OF 'belfrylaw1.WideMul'. -/
def wideMulCard : Claim7 := { stood := { row := wideMulRow, standIns := [], harness := (true, "997790bb7d0970d5daff195434f3fed67825d5c96cd1d917d2643199604d9de5"), looks := false }, kinds := [], alts := [], laidByText := true, laidKinds := [.data, .data, .data, .data, .pinned], laidTests := true, laidLooks := .later }
def WideMulCardSaid : Prop := Claim7.holds Tryd.pinned (.plain (OpenSpec.ofChange wideMulSpec)) wideMulCard

/-- THE TIED CARD OF 'belfrylaw1.WideTexts'. -/
def wideTextsCard : Claim7 := { stood := { row := wideTextsRow, standIns := [], harness := (true, "997790bb7d0970d5daff195434f3fed67825d5c96cd1d917d2643199604d9de5"), looks := false }, kinds := [], alts := [], laidByText := true, laidKinds := [.data, .data, .data, .data, .pinned], laidTests := true, laidLooks := .later }
def WideTextsCardSaid : Prop := Claim7.holds Tryd.pinned (.plain (OpenSpec.ofChange wideTextsSpec)) wideTextsCard

/-- THE TIED CARD OF 'belfrylaw1.WideRatio'. -/
def wideRatioCard : Claim7 := { stood := { row := wideRatioRow, standIns := [], harness := (true, "997790bb7d0970d5daff195434f3fed67825d5c96cd1d917d2643199604d9de5"), looks := false }, kinds := [], alts := [], laidByText := true, laidKinds := [.data, .data, .data, .data, .pinned], laidTests := true, laidLooks := .later }
def WideRatioCardSaid : Prop := Claim7.holds Tryd.pinned (.plain (OpenSpec.ofChange wideRatioSpec)) wideRatioCard

/-- THE TIED CARD OF 'belfrylaw1.WideSum'. -/
def wideSumCard : Claim7 := { stood := { row := wideSumRow, standIns := [], harness := (true, "997790bb7d0970d5daff195434f3fed67825d5c96cd1d917d2643199604d9de5"), looks := false }, kinds := [], alts := [], laidByText := true, laidKinds := [.data, .data, .data, .data, .pinned], laidTests := true, laidLooks := .later }
def WideSumCardSaid : Prop := Claim7.holds Tryd.pinned (.plain (OpenSpec.ofChange wideSumSpec)) wideSumCard

/-- THE TIED CARD OF 'belfrylaw1.WideNeg'. -/
def wideNegCard : Claim7 := { stood := { row := wideNegRow, standIns := [], harness := (true, "997790bb7d0970d5daff195434f3fed67825d5c96cd1d917d2643199604d9de5"), looks := false }, kinds := [], alts := [], laidByText := true, laidKinds := [.data, .data, .data, .data, .pinned], laidTests := true, laidLooks := .later }
def WideNegCardSaid : Prop := Claim7.holds Tryd.pinned (.plain (OpenSpec.ofChange wideNegSpec)) wideNegCard

/-- THE SECOND FORM's CARD OF 'belfrylaw1.WideTwo'. -/
def wideTwoUptoCard : Claim7 := { stood := { row := wideTwoUptoRow, standIns := [], harness := (true, "997790bb7d0970d5daff195434f3fed67825d5c96cd1d917d2643199604d9de5"), looks := false }, kinds := [], alts := [], laidByText := true, laidKinds := [.data, .data, .data, .data, .pinned], laidTests := true, laidLooks := .later }
def WideTwoUptoCardSaid : Prop := Claim7.holds Tryd.pinned (.plain (OpenSpec.upto wideTwoSpec)) wideTwoUptoCard

/-- THE SECOND FORM's CARD OF 'belfrylaw1.WideMul'. -/
def wideMulUptoCard : Claim7 := { stood := { row := wideMulUptoRow, standIns := [], harness := (true, "997790bb7d0970d5daff195434f3fed67825d5c96cd1d917d2643199604d9de5"), looks := false }, kinds := [], alts := [], laidByText := true, laidKinds := [.data, .data, .data, .data, .pinned], laidTests := true, laidLooks := .later }
def WideMulUptoCardSaid : Prop := Claim7.holds Tryd.pinned (.plain (OpenSpec.upto wideMulSpec)) wideMulUptoCard

/-- THE SECOND FORM's CARD OF 'belfrylaw1.WideTexts'. -/
def wideTextsUptoCard : Claim7 := { stood := { row := wideTextsUptoRow, standIns := [], harness := (true, "997790bb7d0970d5daff195434f3fed67825d5c96cd1d917d2643199604d9de5"), looks := false }, kinds := [], alts := [], laidByText := true, laidKinds := [.data, .data, .data, .data, .pinned], laidTests := true, laidLooks := .later }
def WideTextsUptoCardSaid : Prop := Claim7.holds Tryd.pinned (.plain (OpenSpec.upto wideTextsSpec)) wideTextsUptoCard

/-- THE SECOND FORM's CARD OF 'belfrylaw1.WideRatio'. -/
def wideRatioUptoCard : Claim7 := { stood := { row := wideRatioUptoRow, standIns := [], harness := (true, "997790bb7d0970d5daff195434f3fed67825d5c96cd1d917d2643199604d9de5"), looks := false }, kinds := [], alts := [], laidByText := true, laidKinds := [.data, .data, .data, .data, .pinned], laidTests := true, laidLooks := .later }
def WideRatioUptoCardSaid : Prop := Claim7.holds Tryd.pinned (.plain (OpenSpec.upto wideRatioSpec)) wideRatioUptoCard

/-- THE SECOND FORM's CARD OF 'belfrylaw1.WideSum'. -/
def wideSumUptoCard : Claim7 := { stood := { row := wideSumUptoRow, standIns := [], harness := (true, "997790bb7d0970d5daff195434f3fed67825d5c96cd1d917d2643199604d9de5"), looks := false }, kinds := [], alts := [], laidByText := true, laidKinds := [.data, .data, .data, .data, .pinned], laidTests := true, laidLooks := .later }
def WideSumUptoCardSaid : Prop := Claim7.holds Tryd.pinned (.plain (OpenSpec.upto wideSumSpec)) wideSumUptoCard

/-- THE SECOND FORM's CARD OF 'belfrylaw1.WideNeg'. -/
def wideNegUptoCard : Claim7 := { stood := { row := wideNegUptoRow, standIns := [], harness := (true, "997790bb7d0970d5daff195434f3fed67825d5c96cd1d917d2643199604d9de5"), looks := false }, kinds := [], alts := [], laidByText := true, laidKinds := [.data, .data, .data, .data, .pinned], laidTests := true, laidLooks := .later }
def WideNegUptoCardSaid : Prop := Claim7.holds Tryd.pinned (.plain (OpenSpec.upto wideNegSpec)) wideNegUptoCard
end Rows
end Go.Proofs.YtmggiclikbacjaaDoor
