/-
  DERIVED. GIVEN WITH THE SEED: THE CARDS: each row of YtoodcaonlfeleaaDoorRows.lean that lists a variable, with what it lists TIED to the program's text (the seventh form; the later family's looks); each row that meets fmt, with fmt's text TOLD by the authors' own Lean function (tested against real Go, not proved from fmt's source: count such statements apart). THE CARD IS WHAT COUNTS. Prove the row's statement (the work); the ties are given (YtoodcaonlfeleaaDoorTie.lean); close each card by the builder's one call (the guide's Derived/Test/ToyasCard.lean, 'card_holds'). Laid BY PROGRAM, IN A SANDBOX (cutbox-door.mjs). By AI agents, Wed Nov 11 2026. No macro, syntax, notation, axiom, sorry.
-/
import Derived.Test.YtoodcaonlfeleaaDoorRows
import GoSem.ClaimSeven
namespace Go.Proofs.YtoodcaonlfeleaaDoor
namespace Rows

/-- THE TIED CARD OF 'belfrylaw15.SourcePlays'. -/
def sourcePlaysCard : Claim7 := { stood := { row := sourcePlaysRow, standIns := [], harness := (true, "7a9e365fd896daeeefc3b375e276fa0d77d8a75445bc9b7449832290e61fb27d"), looks := false }, kinds := [], alts := [], laidByText := true, laidKinds := [.data, .pinned], laidTests := true, laidLooks := .later }
def SourcePlaysCardSaid : Prop := Claim7.holds Tryd.pinned (.plain (OpenSpec.ofChange sourcePlaysSpec)) sourcePlaysCard

/-- THE TIED CARD OF 'belfrylaw15.SourceRises'. -/
def sourceRisesCard : Claim7 := { stood := { row := sourceRisesRow, standIns := [], harness := (true, "7a9e365fd896daeeefc3b375e276fa0d77d8a75445bc9b7449832290e61fb27d"), looks := false }, kinds := [], alts := [], laidByText := true, laidKinds := [.data, .pinned], laidTests := true, laidLooks := .later }
def SourceRisesCardSaid : Prop := Claim7.holds Tryd.pinned (.plain (OpenSpec.ofChange sourceRisesSpec)) sourceRisesCard

/-- THE TIED CARD OF 'belfrylaw15.SourceLeast'. -/
def sourceLeastCard : Claim7 := { stood := { row := sourceLeastRow, standIns := [], harness := (true, "7a9e365fd896daeeefc3b375e276fa0d77d8a75445bc9b7449832290e61fb27d"), looks := false }, kinds := [], alts := [], laidByText := true, laidKinds := [.data, .pinned], laidTests := true, laidLooks := .later }
def SourceLeastCardSaid : Prop := Claim7.holds Tryd.pinned (.plain (OpenSpec.ofChange sourceLeastSpec)) sourceLeastCard

/-- THE SECOND FORM's CARD OF 'belfrylaw15.SourcePlays'. -/
def sourcePlaysUptoCard : Claim7 := { stood := { row := sourcePlaysUptoRow, standIns := [], harness := (true, "7a9e365fd896daeeefc3b375e276fa0d77d8a75445bc9b7449832290e61fb27d"), looks := false }, kinds := [], alts := [], laidByText := true, laidKinds := [.data, .pinned], laidTests := true, laidLooks := .later }
def SourcePlaysUptoCardSaid : Prop := Claim7.holds Tryd.pinned (.plain (OpenSpec.upto sourcePlaysSpec)) sourcePlaysUptoCard

/-- THE SECOND FORM's CARD OF 'belfrylaw15.SourceRises'. -/
def sourceRisesUptoCard : Claim7 := { stood := { row := sourceRisesUptoRow, standIns := [], harness := (true, "7a9e365fd896daeeefc3b375e276fa0d77d8a75445bc9b7449832290e61fb27d"), looks := false }, kinds := [], alts := [], laidByText := true, laidKinds := [.data, .pinned], laidTests := true, laidLooks := .later }
def SourceRisesUptoCardSaid : Prop := Claim7.holds Tryd.pinned (.plain (OpenSpec.upto sourceRisesSpec)) sourceRisesUptoCard

/-- THE SECOND FORM's CARD OF 'belfrylaw15.SourceLeast'. -/
def sourceLeastUptoCard : Claim7 := { stood := { row := sourceLeastUptoRow, standIns := [], harness := (true, "7a9e365fd896daeeefc3b375e276fa0d77d8a75445bc9b7449832290e61fb27d"), looks := false }, kinds := [], alts := [], laidByText := true, laidKinds := [.data, .pinned], laidTests := true, laidLooks := .later }
def SourceLeastUptoCardSaid : Prop := Claim7.holds Tryd.pinned (.plain (OpenSpec.upto sourceLeastSpec)) sourceLeastUptoCard
end Rows
end Go.Proofs.YtoodcaonlfeleaaDoor
