/-
  DERIVED. GIVEN WITH THE SEED: THE CARDS: each row of YtcfdpbbpdnpnnaaDoorRows.lean that lists a variable, with what it lists TIED to the program's text (the seventh form; the later family's looks); each row that meets fmt, with fmt's text TOLD by the authors' own Lean function (tested against real Go, not proved from fmt's source: count such statements apart). THE CARD IS WHAT COUNTS. Prove the row's statement (the work); the ties are given (YtcfdpbbpdnpnnaaDoorTie.lean); close each card by the builder's one call (the guide's Derived/Test/ToyasCard.lean, 'card_holds'). Laid BY PROGRAM, IN A SANDBOX (cutbox-door.mjs). By AI agents, Wed Nov 11 2026. No macro, syntax, notation, axiom, sorry.
-/
import Derived.Test.YtcfdpbbpdnpnnaaDoorRows
import GoSem.ClaimSeven
namespace Go.Proofs.YtcfdpbbpdnpnnaaDoor
namespace Rows

/-- THE TIED CARD OF 'belfrylaw4.RegexAny'. -/
def regexAnyCard : Claim7 := { stood := { row := regexAnyRow, standIns := [], harness := (true, "d970b3d84ffdeb95c48d3b036337f89562d15da497589fecca25b1c454152e21"), looks := false }, kinds := [], alts := [], laidByText := true, laidKinds := [.data], laidTests := true, laidLooks := .later }
def RegexAnyCardSaid : Prop := Claim7.holds Tryd.pinned (.plain (OpenSpec.ofChange regexAnySpec)) regexAnyCard

/-- THE TIED CARD OF 'belfrylaw4.RegexQuote'. -/
def regexQuoteCard : Claim7 := { stood := { row := regexQuoteRow, standIns := [], harness := (true, "d970b3d84ffdeb95c48d3b036337f89562d15da497589fecca25b1c454152e21"), looks := false }, kinds := [], alts := [], laidByText := true, laidKinds := [.data], laidTests := true, laidLooks := .later }
def RegexQuoteCardSaid : Prop := Claim7.holds Tryd.pinned (.plain (OpenSpec.ofChange regexQuoteSpec)) regexQuoteCard

/-- THE TIED CARD OF 'belfrylaw4.RegexParts'. -/
def regexPartsCard : Claim7 := { stood := { row := regexPartsRow, standIns := [], harness := (true, "d970b3d84ffdeb95c48d3b036337f89562d15da497589fecca25b1c454152e21"), looks := false }, kinds := [], alts := [], laidByText := true, laidKinds := [.data], laidTests := true, laidLooks := .later }
def RegexPartsCardSaid : Prop := Claim7.holds Tryd.pinned (.plain (OpenSpec.ofChange regexPartsSpec)) regexPartsCard

/-- THE TIED CARD OF 'belfrylaw4.RegexTimes'. -/
def regexTimesCard : Claim7 := { stood := { row := regexTimesRow, standIns := [], harness := (true, "d970b3d84ffdeb95c48d3b036337f89562d15da497589fecca25b1c454152e21"), looks := false }, kinds := [], alts := [], laidByText := true, laidKinds := [.data], laidTests := true, laidLooks := .later }
def RegexTimesCardSaid : Prop := Claim7.holds Tryd.pinned (.plain (OpenSpec.ofChange regexTimesSpec)) regexTimesCard

/-- THE TIED CARD OF 'belfrylaw4.RegexSets'. -/
def regexSetsCard : Claim7 := { stood := { row := regexSetsRow, standIns := [], harness := (true, "d970b3d84ffdeb95c48d3b036337f89562d15da497589fecca25b1c454152e21"), looks := false }, kinds := [], alts := [], laidByText := true, laidKinds := [.data], laidTests := true, laidLooks := .later }
def RegexSetsCardSaid : Prop := Claim7.holds Tryd.pinned (.plain (OpenSpec.ofChange regexSetsSpec)) regexSetsCard

/-- THE SECOND FORM's CARD OF 'belfrylaw4.RegexAny'. -/
def regexAnyUptoCard : Claim7 := { stood := { row := regexAnyUptoRow, standIns := [], harness := (true, "d970b3d84ffdeb95c48d3b036337f89562d15da497589fecca25b1c454152e21"), looks := false }, kinds := [], alts := [], laidByText := true, laidKinds := [.data], laidTests := true, laidLooks := .later }
def RegexAnyUptoCardSaid : Prop := Claim7.holds Tryd.pinned (.plain (OpenSpec.upto regexAnySpec)) regexAnyUptoCard

/-- THE SECOND FORM's CARD OF 'belfrylaw4.RegexQuote'. -/
def regexQuoteUptoCard : Claim7 := { stood := { row := regexQuoteUptoRow, standIns := [], harness := (true, "d970b3d84ffdeb95c48d3b036337f89562d15da497589fecca25b1c454152e21"), looks := false }, kinds := [], alts := [], laidByText := true, laidKinds := [.data], laidTests := true, laidLooks := .later }
def RegexQuoteUptoCardSaid : Prop := Claim7.holds Tryd.pinned (.plain (OpenSpec.upto regexQuoteSpec)) regexQuoteUptoCard

/-- THE SECOND FORM's CARD OF 'belfrylaw4.RegexParts'. -/
def regexPartsUptoCard : Claim7 := { stood := { row := regexPartsUptoRow, standIns := [], harness := (true, "d970b3d84ffdeb95c48d3b036337f89562d15da497589fecca25b1c454152e21"), looks := false }, kinds := [], alts := [], laidByText := true, laidKinds := [.data], laidTests := true, laidLooks := .later }
def RegexPartsUptoCardSaid : Prop := Claim7.holds Tryd.pinned (.plain (OpenSpec.upto regexPartsSpec)) regexPartsUptoCard

/-- THE SECOND FORM's CARD OF 'belfrylaw4.RegexTimes'. -/
def regexTimesUptoCard : Claim7 := { stood := { row := regexTimesUptoRow, standIns := [], harness := (true, "d970b3d84ffdeb95c48d3b036337f89562d15da497589fecca25b1c454152e21"), looks := false }, kinds := [], alts := [], laidByText := true, laidKinds := [.data], laidTests := true, laidLooks := .later }
def RegexTimesUptoCardSaid : Prop := Claim7.holds Tryd.pinned (.plain (OpenSpec.upto regexTimesSpec)) regexTimesUptoCard

/-- THE SECOND FORM's CARD OF 'belfrylaw4.RegexSets'. -/
def regexSetsUptoCard : Claim7 := { stood := { row := regexSetsUptoRow, standIns := [], harness := (true, "d970b3d84ffdeb95c48d3b036337f89562d15da497589fecca25b1c454152e21"), looks := false }, kinds := [], alts := [], laidByText := true, laidKinds := [.data], laidTests := true, laidLooks := .later }
def RegexSetsUptoCardSaid : Prop := Claim7.holds Tryd.pinned (.plain (OpenSpec.upto regexSetsSpec)) regexSetsUptoCard
end Rows
end Go.Proofs.YtcfdpbbpdnpnnaaDoor
