/- cmp.Compare of texts; label.Compare. -/
import Derived.Test.YtgldieboflmnhaaGreatDoorHash
namespace Go.Proofs.YtgldieboflmnhaaGreatDoor
open Go Go.Proofs Go.RowKit Go.Shelf
set_option maxRecDepth 100000
/-- how a text stands to another, by bytes -/
def cmpR (a b : List UInt8) : Int := if Op.bytesLess a b = true then -1 else if (a == b) = true then 0 else 1
end Go.Proofs.YtgldieboflmnhaaGreatDoor
