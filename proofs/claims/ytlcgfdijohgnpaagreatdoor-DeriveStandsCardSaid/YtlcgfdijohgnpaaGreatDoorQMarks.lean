/-
  Marks.
-/
import Derived.Maps.AppendAt
import Derived.Laws.OwnMore
import Derived.Laws.Rows
import Derived.Below
import Derived.RegionTactic
namespace Go.Proofs.YtlcgfdijohgnpaaGreatDoor
open Go.RowKit

theorem below_one (w : World) (o : Obj) : Below w.heap.size w (w.alloc o) := (Below.refl _ w).alloc (Nat.le_refl _) o
section
variable {w w' : World} {e : TypeId} {sz : Nat} {mk : Nat → List Value} {col : Nat → Nat} {i : Nat} {v : Value} {k : Nat}

theorem heap_lt {g : Nat} {o : Obj} (h : w.heap[g]? = some o) : g < w.heap.size := (Array.getElem?_eq_some_iff.1 h).1
end

end Go.Proofs.YtlcgfdijohgnpaaGreatDoor
