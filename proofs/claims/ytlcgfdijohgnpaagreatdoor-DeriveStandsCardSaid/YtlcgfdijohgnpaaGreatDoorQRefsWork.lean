/-
  ValueRefDigits, ValueRefGreat, ValueRefPrint, RefsWork.
-/
import Derived.Test.YtlcgfdijohgnpaaGreatDoorQValuePrint
import Derived.Test.YtlcgfdijohgnpaaGreatDoorQValueUnited
import Derived.Deep.RegionHeld3
import Derived.IntWalk
import Derived.Test.YtlcgfdijohgnpaaGreatDoorQValueRefRight2
import Derived.Test.YtlcgfdijohgnpaaGreatDoorQSetOwn
import Derived.Test.YtlcgfdijohgnpaaGreatDoorQRefsPieces
namespace Go.Proofs.YtlcgfdijohgnpaaGreatDoor
open Go.ChangeShapes Go.WideShapes Go.ChangeAt Go.RowKit

end Go.Proofs.YtlcgfdijohgnpaaGreatDoor

namespace Go.Proofs.YtlcgfdijohgnpaaGreatDoor
open Go.ChangeShapes Go.WideShapes Go.ChangeAt Go.RowKit

end Go.Proofs.YtlcgfdijohgnpaaGreatDoor

namespace Go.Proofs.YtlcgfdijohgnpaaGreatDoor
open Go.ChangeShapes Go.WideShapes Go.ChangeAt Go.RowKit

end Go.Proofs.YtlcgfdijohgnpaaGreatDoor

namespace Go.Proofs.YtlcgfdijohgnpaaGreatDoor
open Go.ChangeShapes Go.WideShapes Go.ChangeAt Go.RowKit

theorem newRow {w w' : World} {B : Nat} {e : TypeId} {size n : Nat} (hB : B ≤ w.heap.size) (xs : List Value) (hn : xs.length = n * size) (hl : n ≤ maxLen) (h : w' = w.alloc (Obj.cells xs.toArray e)) : w'.ownsRow B e size (.slice (some ⟨w.heap.size, 0, none⟩) n n) n xs := by
 subst h
 refine ⟨hn, .inr ⟨w.heap.size, n, xs.toArray, rfl, hB, heap_alloc_new _ _, Nat.le_refl _, hl, by simpa using hn, ?_⟩⟩
 rw [List.toList_toArray, List.take_of_length_le (by omega)]
end Go.Proofs.YtlcgfdijohgnpaaGreatDoor
