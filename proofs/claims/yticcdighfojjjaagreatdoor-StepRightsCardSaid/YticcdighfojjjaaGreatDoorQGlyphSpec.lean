/-
  GlyphSpec.
-/
import Derived.Test.YticcdighfojjjaaGreatDoorRows
import Derived.WalkKit
import Derived.ProofKit
import Derived.OpenShut
import Derived.WalkLawsBesides
import Derived.Lib.Hide
namespace Go.Proofs.YticcdighfojjjaaGreatDoor
open Go.ChangeShapes Go.WideShapes Go.ChangeAt Go.RowKit

/-- The class of a byte, as the chapter's table says it. -/
def cls (b : Int) : Int :=
  if 97 ≤ b ∧ b ≤ 122 then 1 else if 65 ≤ b ∧ b ≤ 90 then 2 else if 48 ≤ b ∧ b ≤ 57 then 3
  else if b = 32 ∨ b = 9 then 4 else if b = 10 ∨ b = 13 then 6 else if 33 ≤ b ∧ b ≤ 126 then 5 else 0
theorem cls_in (b : Int) : 0 ≤ cls b ∧ cls b ≤ 6 := by unfold cls; repeat' split
                                                       all_goals omega
theorem cls_out {b : Int} (h : b < 0 ∨ 127 < b) : cls b = 0 := by
  unfold cls
  repeat' split
  all_goals omega

/-- What the four tables hold in a world. -/
def Tab (w : World) : Prop :=
  (∀ i : Nat, i < 32 → w.cell? ⟨1, i, none⟩ = some (.int .u8 (cls i))) ∧
  (∀ i : Nat, i < 32 → w.cell? ⟨2, i, none⟩ = some (.int .u8 (cls (32 + i)))) ∧
  (∀ i : Nat, i < 32 → w.cell? ⟨3, i, none⟩ = some (.int .u8 (cls (64 + i)))) ∧
  (∀ i : Nat, i < 32 → w.cell? ⟨4, i, none⟩ = some (.int .u8 (cls (96 + i))))

theorem lt_of_cell {w : World} {b i : Nat} {v : Value} (h : w.cell? ⟨b, i, none⟩ = some v) : b < w.heap.size := by
  rcases Nat.lt_or_ge b w.heap.size with h1 | h1
  · exact h1
  · simp [World.cell?, Array.getElem?_eq_none h1] at h
theorem Tab.below {w w' : World} (h : Tab w) (hb : Below w.heap.size w w') : Tab w' := by
  obtain ⟨h0, h1, h2, h3⟩ := h
  refine ⟨fun i hi => ?_, fun i hi => ?_, fun i hi => ?_, fun i hi => ?_⟩
  · rw [hb.cell (lt_of_cell (h0 i hi))]; exact h0 i hi
  · rw [hb.cell (lt_of_cell (h1 i hi))]; exact h1 i hi
  · rw [hb.cell (lt_of_cell (h2 i hi))]; exact h2 i hi
  · rw [hb.cell (lt_of_cell (h3 i hi))]; exact h3 i hi
end Go.Proofs.YticcdighfojjjaaGreatDoor
