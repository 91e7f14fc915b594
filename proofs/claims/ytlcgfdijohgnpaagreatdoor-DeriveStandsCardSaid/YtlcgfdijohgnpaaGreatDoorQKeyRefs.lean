/-
  KeyRefs.
-/
import Derived.Test.YtlcgfdijohgnpaaGreatDoorQKeyFinds
import Derived.Laws.StructEq
namespace Go.Proofs.YtlcgfdijohgnpaaGreatDoor
open Go.ChangeShapes Go.WideShapes Go.ChangeAt Go.RowKit

theorem Keys.name {w : World} {g : Nat} {xs : List KeyV} (h : Keys w (some ⟨g, 0, none⟩) xs) (i : Nat) (hi : i < xs.length) : w.cell? ⟨g, i * 6, none⟩ = some (.string xs[i].name) := by
 obtain ⟨a, ea, _, a0, _⟩ := h i hi
 have ea : g = a := by simpa using ea
 rw [ea]; exact a0
theorem less_cmp : ∀ a b : List UInt8, Op.bytesLess a b = decide (Lib.compareBytes a b < 0)
 | [], [] => rfl
 | [], _ :: _ => rfl
 | _ :: _, [] => rfl
 | x :: a, y :: b => by
  unfold Op.bytesLess Lib.compareBytes
  by_cases h1 : x < y
  ·simp [h1]
  ·by_cases h2 : y < x
   ·have h3 : ¬ x = y := fun e => by subst e; exact h1 h2
    simp [h1, h2, h3]
   ·have h3 : x = y := UInt8.le_antisymm (UInt8.not_lt.1 h2) (UInt8.not_lt.1 h1)
    subst h3
    simp [h1, less_cmp a b]
end Go.Proofs.YtlcgfdijohgnpaaGreatDoor
