/-
  ValueRefWithin, SetMay.
-/
import Derived.Test.YtlcgfdijohgnpaaGreatDoorQValueRefRight2
import Derived.Test.YtlcgfdijohgnpaaGreatDoorQSetOwn
import Derived.Test.YtlcgfdijohgnpaaGreatDoorQKeyFind
namespace Go.Proofs.YtlcgfdijohgnpaaGreatDoor
open Go.ChangeShapes Go.WideShapes Go.ChangeAt Go.RowKit

end Go.Proofs.YtlcgfdijohgnpaaGreatDoor

namespace Go.Proofs.YtlcgfdijohgnpaaGreatDoor
open Go.ChangeShapes Go.WideShapes Go.ChangeAt Go.RowKit

def mayV (k : KeyV) (v : Val) : Bool := rightV v && withinV v k.least k.most && decide (v.kind = k.kind)
end Go.Proofs.YtlcgfdijohgnpaaGreatDoor
