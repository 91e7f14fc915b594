/-
  RefsApartM, TxOwned, RefsExpd.
-/
import Derived.Test.YtopghlnoklajkaaGreatDoorQRefsLaw0
import Derived.Test.YtopghlnoklajkaaGreatDoorQRefsBoth
import Derived.Test.YtopghlnoklajkaaGreatDoorQSetOwn
import Derived.Test.YtopghlnoklajkaaGreatDoorQRowOps
import Derived.Deep.RegionHeld3
import Derived.Deep.AppendLies
import Derived.IntWalk
import Derived.Test.YtopghlnoklajkaaGreatDoorQRefsSpW
import Derived.Test.YtopghlnoklajkaaGreatDoorQLayGet
import Derived.Test.YtopghlnoklajkaaGreatDoorQRefsPieces
import Derived.Test.YtopghlnoklajkaaGreatDoorQValuePrint
namespace Go.Proofs.YtopghlnoklajkaaGreatDoor

section
variable {P P2 : Nat → List PcB} {pl : List UInt8 → Option Nat} {k : Nat}
end
section
variable {k : Nat} {ms ms2 : List SetM}
end
section
variable {ms : List SetM} {i0 j0 m0 k T : Nat} {D : Nat → Bool} {nms : List ByteArray} {c : Bool}
end
end Go.Proofs.YtopghlnoklajkaaGreatDoor

namespace Go.Proofs.YtopghlnoklajkaaGreatDoor
open Go.ChangeShapes Go.WideShapes Go.ChangeAt Go.RowKit

section
variable {N B B2 L n : Nat} {w0 w w' : World} {X : Nat → Option Addr} {C : Nat → Nat} {F : Nat → List ByteArray} {al : Value} {vs : List Value} {col : Nat → Nat}
end

section
variable {w w' : World} {B B1 B2 n n1 n2 s1 s2 : Nat} {e e1 e2 : TypeId} {v v1 v2 : Value} {xs xs1 xs2 : List Value}
end
section
variable {w0 w w7 w8 w9 : World} {F : Nat → List ByteArray} {lv wv lv' wv' : Value} {k : Nat} {X Y : Nat → Option Addr} {C D : Nat → Nat} {col : Nat → Nat}
end

end Go.Proofs.YtopghlnoklajkaaGreatDoor

namespace Go.Proofs.YtopghlnoklajkaaGreatDoor
open Go.ChangeShapes Go.WideShapes Go.ChangeAt Go.RowKit

end Go.Proofs.YtopghlnoklajkaaGreatDoor
