/-
  DERIVED. GIVEN WITH THE SEED: THE CARDS: each row of YtmcmgmpgmbljiaaDoorRows.lean that lists a variable, with what it lists TIED to the program's text (the seventh form; the later family's looks); each row that meets fmt, with fmt's text TOLD by the authors' own Lean function (tested against real Go, not proved from fmt's source: count such statements apart). THE CARD IS WHAT COUNTS. Prove the row's statement (the work); the ties are given (YtmcmgmpgmbljiaaDoorTie.lean); close each card by the builder's one call (the guide's Derived/Test/ToyasCard.lean, 'card_holds'). Laid BY PROGRAM, IN A SANDBOX (cutbox-door.mjs). By AI agents, Wed Nov 11 2026. No macro, syntax, notation, axiom, sorry.
-/
import Derived.Test.YtmcmgmpgmbljiaaDoorRows
import GoSem.ClaimSeven
namespace Go.Proofs.YtmcmgmpgmbljiaaDoor
namespace Rows

/-- THE TIED CARD OF 'belfrylaw3.LabelAny'. -/
def labelAnyCard : Claim7 := { stood := { row := labelAnyRow, standIns := [], harness := (true, "cfa6df059eae528da3d0507e8bed4a77ba2b86e7943d853bb55157101c74a3a0"), looks := false }, kinds := [], alts := [], laidByText := true, laidKinds := [.data, .pinned], laidTests := true, laidLooks := .later }
def LabelAnyCardSaid : Prop := Claim7.holds Tryd.pinned (.plain (OpenSpec.ofChange labelAnySpec)) labelAnyCard

/-- THE TIED CARD OF 'belfrylaw3.LabelParts'. -/
def labelPartsCard : Claim7 := { stood := { row := labelPartsRow, standIns := [], harness := (true, "cfa6df059eae528da3d0507e8bed4a77ba2b86e7943d853bb55157101c74a3a0"), looks := false }, kinds := [], alts := [], laidByText := true, laidKinds := [.data, .pinned], laidTests := true, laidLooks := .later }
def LabelPartsCardSaid : Prop := Claim7.holds Tryd.pinned (.plain (OpenSpec.ofChange labelPartsSpec)) labelPartsCard

/-- THE TIED CARD OF 'belfrylaw3.LabelWith'. -/
def labelWithCard : Claim7 := { stood := { row := labelWithRow, standIns := [], harness := (true, "cfa6df059eae528da3d0507e8bed4a77ba2b86e7943d853bb55157101c74a3a0"), looks := false }, kinds := [], alts := [], laidByText := true, laidKinds := [.data, .pinned], laidTests := true, laidLooks := .later }
def LabelWithCardSaid : Prop := Claim7.holds Tryd.pinned (.plain (OpenSpec.ofChange labelWithSpec)) labelWithCard

/-- THE TIED CARD OF 'belfrylaw3.LabelSplit'. -/
def labelSplitCard : Claim7 := { stood := { row := labelSplitRow, standIns := [], harness := (true, "cfa6df059eae528da3d0507e8bed4a77ba2b86e7943d853bb55157101c74a3a0"), looks := false }, kinds := [], alts := [], laidByText := true, laidKinds := [.data, .pinned], laidTests := true, laidLooks := .later }
def LabelSplitCardSaid : Prop := Claim7.holds Tryd.pinned (.plain (OpenSpec.ofChange labelSplitSpec)) labelSplitCard

/-- THE TIED CARD OF 'belfrylaw3.LabelShards'. -/
def labelShardsCard : Claim7 := { stood := { row := labelShardsRow, standIns := [], harness := (true, "cfa6df059eae528da3d0507e8bed4a77ba2b86e7943d853bb55157101c74a3a0"), looks := false }, kinds := [], alts := [], laidByText := true, laidKinds := [.data, .pinned], laidTests := true, laidLooks := .later }
def LabelShardsCardSaid : Prop := Claim7.holds Tryd.pinned (.plain (OpenSpec.ofChange labelShardsSpec)) labelShardsCard

/-- THE SECOND FORM's CARD OF 'belfrylaw3.LabelAny'. -/
def labelAnyUptoCard : Claim7 := { stood := { row := labelAnyUptoRow, standIns := [], harness := (true, "cfa6df059eae528da3d0507e8bed4a77ba2b86e7943d853bb55157101c74a3a0"), looks := false }, kinds := [], alts := [], laidByText := true, laidKinds := [.data, .pinned], laidTests := true, laidLooks := .later }
def LabelAnyUptoCardSaid : Prop := Claim7.holds Tryd.pinned (.plain (OpenSpec.upto labelAnySpec)) labelAnyUptoCard

/-- THE SECOND FORM's CARD OF 'belfrylaw3.LabelParts'. -/
def labelPartsUptoCard : Claim7 := { stood := { row := labelPartsUptoRow, standIns := [], harness := (true, "cfa6df059eae528da3d0507e8bed4a77ba2b86e7943d853bb55157101c74a3a0"), looks := false }, kinds := [], alts := [], laidByText := true, laidKinds := [.data, .pinned], laidTests := true, laidLooks := .later }
def LabelPartsUptoCardSaid : Prop := Claim7.holds Tryd.pinned (.plain (OpenSpec.upto labelPartsSpec)) labelPartsUptoCard

/-- THE SECOND FORM's CARD OF 'belfrylaw3.LabelWith'. -/
def labelWithUptoCard : Claim7 := { stood := { row := labelWithUptoRow, standIns := [], harness := (true, "cfa6df059eae528da3d0507e8bed4a77ba2b86e7943d853bb55157101c74a3a0"), looks := false }, kinds := [], alts := [], laidByText := true, laidKinds := [.data, .pinned], laidTests := true, laidLooks := .later }
def LabelWithUptoCardSaid : Prop := Claim7.holds Tryd.pinned (.plain (OpenSpec.upto labelWithSpec)) labelWithUptoCard

/-- THE SECOND FORM's CARD OF 'belfrylaw3.LabelSplit'. -/
def labelSplitUptoCard : Claim7 := { stood := { row := labelSplitUptoRow, standIns := [], harness := (true, "cfa6df059eae528da3d0507e8bed4a77ba2b86e7943d853bb55157101c74a3a0"), looks := false }, kinds := [], alts := [], laidByText := true, laidKinds := [.data, .pinned], laidTests := true, laidLooks := .later }
def LabelSplitUptoCardSaid : Prop := Claim7.holds Tryd.pinned (.plain (OpenSpec.upto labelSplitSpec)) labelSplitUptoCard

/-- THE SECOND FORM's CARD OF 'belfrylaw3.LabelShards'. -/
def labelShardsUptoCard : Claim7 := { stood := { row := labelShardsUptoRow, standIns := [], harness := (true, "cfa6df059eae528da3d0507e8bed4a77ba2b86e7943d853bb55157101c74a3a0"), looks := false }, kinds := [], alts := [], laidByText := true, laidKinds := [.data, .pinned], laidTests := true, laidLooks := .later }
def LabelShardsUptoCardSaid : Prop := Claim7.holds Tryd.pinned (.plain (OpenSpec.upto labelShardsSpec)) labelShardsUptoCard
end Rows
end Go.Proofs.YtmcmgmpgmbljiaaDoor
