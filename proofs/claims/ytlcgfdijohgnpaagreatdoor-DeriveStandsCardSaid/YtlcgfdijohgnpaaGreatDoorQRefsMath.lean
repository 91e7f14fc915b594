/-
  GlyphNames3, CutMath, RefsMath.
-/
import Derived.Test.YtlcgfdijohgnpaaGreatDoorQGlyphNames2
import Derived.Lib.IndexBytes
import Derived.Test.YtlcgfdijohgnpaaGreatDoorQValueMath
import Derived.Lib.CutLaws
import Derived.Lib.IndexMore
namespace Go.Proofs.YtlcgfdijohgnpaaGreatDoor
open Go.ChangeShapes Go.WideShapes Go.ChangeAt Go.RowKit

end Go.Proofs.YtlcgfdijohgnpaaGreatDoor

namespace Go.Proofs.YtlcgfdijohgnpaaGreatDoor

def upTo (d : UInt8) (l : List UInt8) : List UInt8 := l.takeWhile (· != d)
def after (d : UInt8) (l : List UInt8) : List UInt8 := (l.dropWhile (· != d)).drop 1
end Go.Proofs.YtlcgfdijohgnpaaGreatDoor

namespace Go.Proofs.YtlcgfdijohgnpaaGreatDoor

abbrev PcB := List UInt8 × Bool
def scanP : Nat → List UInt8 → List UInt8 → List PcB → Option (List PcB)
 | 0, _, b, l => some (l ++ [(b, false)])
 | _ + 1, [], b, l => some (l ++ [(b, false)])
 | f + 1, c :: r, b, l =>
  if c = 36 then
   match r with
   | [] => none
   | d :: r' =>
    if d = 36 then scanP f r' (b ++ [36]) l
    else if d = 123 then
     if r'.contains 125 = true ∧ nameB (upTo 125 r') = true then scanP f (after 125 r') [] (l ++ [(b, false), (upTo 125 r', true)]) else none
    else none
  else scanP f r (b ++ [c]) l
def scanB (r b : List UInt8) (l : List PcB) : Option (List PcB) := scanP r.length r b l
def piecesB (s : List UInt8) : Option (List PcB) := scanB s [] []
def addN (out : List (List UInt8)) (n : List UInt8) : List (List UInt8) := if out.contains n = true then out else out ++ [n]
def nameStep (out : List (List UInt8)) (p : PcB) : List (List UInt8) := if p.2 = true then addN out p.1 else out
def namesL (l : List PcB) : List (List UInt8) := l.foldl nameStep []
end Go.Proofs.YtlcgfdijohgnpaaGreatDoor
