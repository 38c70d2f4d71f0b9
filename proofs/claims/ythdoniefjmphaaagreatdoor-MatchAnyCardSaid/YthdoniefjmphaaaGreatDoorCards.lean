/-
  DERIVED. GIVEN WITH THE SEED: THE CARDS: each row of YthdoniefjmphaaaGreatDoorRows.lean that lists a variable, with what it lists TIED to the program's text (the seventh form; the later family's looks); each row that meets fmt, with fmt's text TOLD by the authors' own Lean function (tested against real Go, not proved from fmt's source: count such statements apart). THE CARD IS WHAT COUNTS. Prove the row's statement (the work); the ties are given (YthdoniefjmphaaaGreatDoorTie.lean); close each card by the builder's one call (the guide's Derived/Test/ToyasCard.lean, 'card_holds'). Laid BY PROGRAM, IN A SANDBOX (cutbox-door.mjs). By AI agents, Wed Nov 11 2026. No macro, syntax, notation, axiom, sorry.
-/
import Derived.Test.YthdoniefjmphaaaGreatDoorRows
import GoSem.ClaimSeven
namespace Go.Proofs.YthdoniefjmphaaaGreatDoor
namespace Rows

/-- THE TIED CARD OF 'belfrylaw5.MatchAny'. -/
def matchAnyCard : Claim7 := { stood := { row := matchAnyRow, standIns := [], harness := (true, "03483af9bc108eb9b068a2bec2e932600b3d45d41d6e6a43cb9401f33e2039bd"), looks := false }, kinds := [], alts := [], laidByText := true, laidKinds := [.data, .data, .pinned], laidTests := true, laidLooks := .later }
def MatchAnyCardSaid : Prop := Claim7.holds Tryz.pinned (.plain (OpenSpec.ofChange matchAnySpec)) matchAnyCard

/-- THE TIED CARD OF 'belfrylaw5.MatchNot'. -/
def matchNotCard : Claim7 := { stood := { row := matchNotRow, standIns := [], harness := (true, "03483af9bc108eb9b068a2bec2e932600b3d45d41d6e6a43cb9401f33e2039bd"), looks := false }, kinds := [], alts := [], laidByText := true, laidKinds := [.data, .data, .pinned], laidTests := true, laidLooks := .later }
def MatchNotCardSaid : Prop := Claim7.holds Tryz.pinned (.plain (OpenSpec.ofChange matchNotSpec)) matchNotCard

/-- THE TIED CARD OF 'belfrylaw5.MatchAll'. -/
def matchAllCard : Claim7 := { stood := { row := matchAllRow, standIns := [], harness := (true, "03483af9bc108eb9b068a2bec2e932600b3d45d41d6e6a43cb9401f33e2039bd"), looks := false }, kinds := [], alts := [], laidByText := true, laidKinds := [.data, .data, .pinned], laidTests := true, laidLooks := .later }
def MatchAllCardSaid : Prop := Claim7.holds Tryz.pinned (.plain (OpenSpec.ofChange matchAllSpec)) matchAllCard

/-- THE SECOND FORM's CARD OF 'belfrylaw5.MatchAny'. -/
def matchAnyUptoCard : Claim7 := { stood := { row := matchAnyUptoRow, standIns := [], harness := (true, "03483af9bc108eb9b068a2bec2e932600b3d45d41d6e6a43cb9401f33e2039bd"), looks := false }, kinds := [], alts := [], laidByText := true, laidKinds := [.data, .data, .pinned], laidTests := true, laidLooks := .later }
def MatchAnyUptoCardSaid : Prop := Claim7.holds Tryz.pinned (.plain (OpenSpec.upto matchAnySpec)) matchAnyUptoCard

/-- THE SECOND FORM's CARD OF 'belfrylaw5.MatchNot'. -/
def matchNotUptoCard : Claim7 := { stood := { row := matchNotUptoRow, standIns := [], harness := (true, "03483af9bc108eb9b068a2bec2e932600b3d45d41d6e6a43cb9401f33e2039bd"), looks := false }, kinds := [], alts := [], laidByText := true, laidKinds := [.data, .data, .pinned], laidTests := true, laidLooks := .later }
def MatchNotUptoCardSaid : Prop := Claim7.holds Tryz.pinned (.plain (OpenSpec.upto matchNotSpec)) matchNotUptoCard

/-- THE SECOND FORM's CARD OF 'belfrylaw5.MatchAll'. -/
def matchAllUptoCard : Claim7 := { stood := { row := matchAllUptoRow, standIns := [], harness := (true, "03483af9bc108eb9b068a2bec2e932600b3d45d41d6e6a43cb9401f33e2039bd"), looks := false }, kinds := [], alts := [], laidByText := true, laidKinds := [.data, .data, .pinned], laidTests := true, laidLooks := .later }
def MatchAllUptoCardSaid : Prop := Claim7.holds Tryz.pinned (.plain (OpenSpec.upto matchAllSpec)) matchAllUptoCard
end Rows
end Go.Proofs.YthdoniefjmphaaaGreatDoor
