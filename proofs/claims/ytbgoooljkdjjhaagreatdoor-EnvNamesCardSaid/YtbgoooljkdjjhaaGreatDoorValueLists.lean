/-
  The walk of the law's 'same': two lists of texts.
-/
import Derived.Test.YtbgoooljkdjjhaaGreatDoorValuePrint
import Derived.Test.YtbgoooljkdjjhaaGreatDoorValueSame
import Derived.Deep.RegionHeld3
namespace Go.Proofs.YtbgoooljkdjjhaaGreatDoor
open Go.ChangeShapes Go.WideShapes Go.ChangeAt Go.RowKit

theorem list_take {xs ys : List ByteArray} {j : Nat} (h1 : j < xs.length) (h2 : j < ys.length) (hp : xs.take j = ys.take j) :
    (¬ xs[j] = ys[j] → decide (xs = ys) = false) ∧ (xs[j] = ys[j] → xs.take (j + 1) = ys.take (j + 1)) := by
  refine ⟨fun hn => decide_eq_false (fun e => hn (by subst e; rfl)), fun he => ?_⟩
  rw [List.take_succ_eq_append_getElem h1, List.take_succ_eq_append_getElem h2, hp, he]

end Go.Proofs.YtbgoooljkdjjhaaGreatDoor
