/-
  RefsPieces.
-/
import Derived.Test.YtlcgfdijohgnpaaGreatDoorQRefsRow
import Derived.Deep.RegionLaw
namespace Go.Proofs.YtlcgfdijohgnpaaGreatDoor
open Go.ChangeShapes Go.WideShapes Go.ChangeAt Go.RowKit

section
variable {w wr w' : World} {lv bv v' : Value} {ps ps' : List PcB} {bs bs' : List UInt8}
end
end Go.Proofs.YtlcgfdijohgnpaaGreatDoor
