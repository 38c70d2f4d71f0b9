/-
  DERIVED. GIVEN WITH THE SEED: THE CARDS: each row of YtgldieboflmnhaaGreatDoorRows.lean that lists a variable, with what it lists TIED to the program's text (the seventh form; the later family's looks); each row that meets fmt, with fmt's text TOLD by the authors' own Lean function (tested against real Go, not proved from fmt's source: count such statements apart). THE CARD IS WHAT COUNTS. Prove the row's statement (the work); the ties are given (YtgldieboflmnhaaGreatDoorTie.lean); close each card by the builder's one call (the guide's Derived/Test/ToyasCard.lean, 'card_holds'). Laid BY PROGRAM, IN A SANDBOX (cutbox-door.mjs). By AI agents, Wed Nov 11 2026. No macro, syntax, notation, axiom, sorry.
-/
import Derived.Test.YtgldieboflmnhaaGreatDoorRows
import GoSem.ClaimSeven
namespace Go.Proofs.YtgldieboflmnhaaGreatDoor
namespace Rows

/-- THE TIED CARD OF 'belfrylaw6.LineAny'. -/
def lineAnyCard : Claim7 := { stood := { row := lineAnyRow, standIns := [], harness := (true, "d009d3691c07d176c26016337bb5c08d2bc695f9826d0d6faf2b04a19d10b31f"), looks := true }, kinds := [], alts := [], laidByText := true, laidKinds := [.data, .data, .data, .data, .sentinel, .sentinel, .pinned], laidTests := true, laidLooks := .later }
def LineAnyCardSaid : Prop := Claim7.holds Tryz.pinned (.plain (OpenSpec.ofChange lineAnySpec)) lineAnyCard

/-- THE TIED CARD OF 'belfrylaw6.LineOrder'. -/
def lineOrderCard : Claim7 := { stood := { row := lineOrderRow, standIns := [], harness := (true, "d009d3691c07d176c26016337bb5c08d2bc695f9826d0d6faf2b04a19d10b31f"), looks := true }, kinds := [], alts := [], laidByText := true, laidKinds := [.data, .data, .data, .data, .sentinel, .sentinel, .pinned], laidTests := true, laidLooks := .later }
def LineOrderCardSaid : Prop := Claim7.holds Tryz.pinned (.plain (OpenSpec.ofChange lineOrderSpec)) lineOrderCard

/-- THE SECOND FORM's CARD OF 'belfrylaw6.LineAny'. -/
def lineAnyUptoCard : Claim7 := { stood := { row := lineAnyUptoRow, standIns := [], harness := (true, "d009d3691c07d176c26016337bb5c08d2bc695f9826d0d6faf2b04a19d10b31f"), looks := true }, kinds := [], alts := [], laidByText := true, laidKinds := [.data, .data, .data, .data, .sentinel, .sentinel, .pinned], laidTests := true, laidLooks := .later }
def LineAnyUptoCardSaid : Prop := Claim7.holds Tryz.pinned (.plain (OpenSpec.upto lineAnySpec)) lineAnyUptoCard

/-- THE SECOND FORM's CARD OF 'belfrylaw6.LineOrder'. -/
def lineOrderUptoCard : Claim7 := { stood := { row := lineOrderUptoRow, standIns := [], harness := (true, "d009d3691c07d176c26016337bb5c08d2bc695f9826d0d6faf2b04a19d10b31f"), looks := true }, kinds := [], alts := [], laidByText := true, laidKinds := [.data, .data, .data, .data, .sentinel, .sentinel, .pinned], laidTests := true, laidLooks := .later }
def LineOrderUptoCardSaid : Prop := Claim7.holds Tryz.pinned (.plain (OpenSpec.upto lineOrderSpec)) lineOrderUptoCard
end Rows
end Go.Proofs.YtgldieboflmnhaaGreatDoor
