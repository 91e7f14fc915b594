/-
  ValueRefRight, ValueRefRight2.
-/
import Derived.Test.YtlcgfdijohgnpaaGreatDoorQValuePrint
import Derived.Test.YtlcgfdijohgnpaaGreatDoorQValueUnited
import Derived.Test.YtlcgfdijohgnpaaGreatDoorQValueRight
import Derived.Deep.RegionHeld3
import Derived.Deep.QuietTactic
import Derived.BigQuiet
namespace Go.Proofs.YtlcgfdijohgnpaaGreatDoor
open Go.ChangeShapes Go.WideShapes Go.ChangeAt Go.RowKit

end Go.Proofs.YtlcgfdijohgnpaaGreatDoor

namespace Go.Proofs.YtlcgfdijohgnpaaGreatDoor
open Go.ChangeShapes Go.WideShapes Go.ChangeAt Go.RowKit

end Go.Proofs.YtlcgfdijohgnpaaGreatDoor
