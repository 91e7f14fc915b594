/-
  RefsApart0.
-/
import Derived.Test.YtopghlnoklajkaaGreatDoorQRefsExpd
import Derived.Test.YtopghlnoklajkaaGreatDoorQRefsMeans0
import Derived.Test.YtopghlnoklajkaaGreatDoorQRefsLaid
import Derived.Test.YtopghlnoklajkaaGreatDoorQLayGet
namespace Go.Proofs.YtopghlnoklajkaaGreatDoor
open Go.ChangeShapes Go.WideShapes Go.ChangeAt Go.RowKit

theorem infoBl : (Tryz.prog.info? 4).map (fun i => (i.zero, i.size, i.bytes)) = some (some (.bool false), 1, 1) := by kernel_rfl
theorem BoolAt.below {W W' : World} {g n : Nat} {D : Nat → Bool} (h : BoolAt W g n D) (hb : Below W.heap.size W W') (hg : g < W.heap.size) : BoolAt W' g n D := fun j hj => ⟨(hb.cell (p := ⟨g, j, none⟩) hg).trans (h j hj).1, (hb.frozen (p := ⟨g, j, none⟩) hg).trans (h j hj).2⟩
theorem BoolAt.same {W : World} {g n i : Nat} {D : Nat → Bool} (h : BoolAt W g n D) : BoolAt W g n (fun q => if q = i then D i else D q) := fun j hj => by
 have := h j hj
 by_cases e : j = i
 ·subst e; simpa using this
 ·simpa [e] using this
end Go.Proofs.YtopghlnoklajkaaGreatDoor
