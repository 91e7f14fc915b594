/-
  ValueBox.
-/
import Derived.Test.YtlcgfdijohgnpaaGreatDoorQValueNum
namespace Go.Proofs.YtlcgfdijohgnpaaGreatDoor
open Go.ChangeShapes Go.WideShapes Go.ChangeAt Go.RowKit

theorem ret_val {a b : Value} (h : a = b) : Ending.returned a = .returned b := by rw [h]
structure Box4 (w : World) (R : Nat) (a b c d : Value) : Prop where
 c0 : w.cell? ⟨R, 0, none⟩ = some a
 c1 : w.cell? ⟨R, 1, none⟩ = some b
 c2 : w.cell? ⟨R, 2, none⟩ = some c
 c3 : w.cell? ⟨R, 3, none⟩ = some d
 z0 : w.frozen? ⟨R, 0, none⟩ = false
 z1 : w.frozen? ⟨R, 1, none⟩ = false
 z2 : w.frozen? ⟨R, 2, none⟩ = false
 z3 : w.frozen? ⟨R, 3, none⟩ = false
variable {w w' : World} {R : Nat} {a b c d : Value}
theorem Box4.lt (h : Box4 w R a b c d) : R < w.heap.size := lt_of_cell h.c0
theorem Box4.below (h : Box4 w R a b c d) (hb : Below w.heap.size w w') : Box4 w' R a b c d := by
 have hl := h.lt
 obtain ⟨h0, h1, h2, h3, z0, z1, z2, z3⟩ := h
 exact ⟨by rw [hb.cell hl]; exact h0, by rw [hb.cell hl]; exact h1, by rw [hb.cell hl]; exact h2, by rw [hb.cell hl]; exact h3, by rw [hb.frozen hl]; exact z0, by rw [hb.frozen hl]; exact z1, by rw [hb.frozen hl]; exact z2, by rw [hb.frozen hl]; exact z3⟩
theorem box4_new (w : World) (a b c d : Value) (t : TypeId) : Box4 (w.alloc (.cells #[a, b, c, d] t)) w.heap.size a b c d := by
 constructor <;> simp
def set4 (w : World) (R : Nat) (x y z u : Value) : World := (((w.setCell ⟨R, 0, none⟩ x).setCell ⟨R, 1, none⟩ y).setCell ⟨R, 2, none⟩ z).setCell ⟨R, 3, none⟩ u
theorem Box4.set4 (h : Box4 w R a b c d) (x y z u : Value) : Box4 (set4 w R x y z u) R x y z u := by
 obtain ⟨h0, h1, h2, h3, z0, z1, z2, z3⟩ := h
 have a0 := World.cell?_setCell_same w ⟨R, 0, none⟩ x h0
 have a1 : (w.setCell ⟨R, 0, none⟩ x).cell? ⟨R, 1, none⟩ = some b := by rw [World.cell?_setCell_other _ _ _ _ (by simp), h1]
 have a2 : (w.setCell ⟨R, 0, none⟩ x).cell? ⟨R, 2, none⟩ = some c := by rw [World.cell?_setCell_other _ _ _ _ (by simp), h2]
 have a3 : (w.setCell ⟨R, 0, none⟩ x).cell? ⟨R, 3, none⟩ = some d := by rw [World.cell?_setCell_other _ _ _ _ (by simp), h3]
 have b1 := World.cell?_setCell_same _ ⟨R, 1, none⟩ y a1
 have b2 : ((w.setCell ⟨R, 0, none⟩ x).setCell ⟨R, 1, none⟩ y).cell? ⟨R, 2, none⟩ = some c := by rw [World.cell?_setCell_other _ _ _ _ (by simp), a2]
 have b3 : ((w.setCell ⟨R, 0, none⟩ x).setCell ⟨R, 1, none⟩ y).cell? ⟨R, 3, none⟩ = some d := by rw [World.cell?_setCell_other _ _ _ _ (by simp), a3]
 have e2 := World.cell?_setCell_same _ ⟨R, 2, none⟩ z b2
 have e3 : (((w.setCell ⟨R, 0, none⟩ x).setCell ⟨R, 1, none⟩ y).setCell ⟨R, 2, none⟩ z).cell? ⟨R, 3, none⟩ = some d := by rw [World.cell?_setCell_other _ _ _ _ (by simp), b3]
 refine ⟨?_, ?_, ?_, World.cell?_setCell_same _ ⟨R, 3, none⟩ u e3, ?_, ?_, ?_, ?_⟩
 ·unfold Go.Proofs.YtlcgfdijohgnpaaGreatDoor.set4; rw [World.cell?_setCell_other _ _ _ _ (by simp), World.cell?_setCell_other _ _ _ _ (by simp), World.cell?_setCell_other _ _ _ _ (by simp), a0]
 ·unfold Go.Proofs.YtlcgfdijohgnpaaGreatDoor.set4; rw [World.cell?_setCell_other _ _ _ _ (by simp), World.cell?_setCell_other _ _ _ _ (by simp), b1]
 ·unfold Go.Proofs.YtlcgfdijohgnpaaGreatDoor.set4; rw [World.cell?_setCell_other _ _ _ _ (by simp), e2]
 all_goals (unfold Go.Proofs.YtlcgfdijohgnpaaGreatDoor.set4; rw [World.frozen?_setCell, World.frozen?_setCell, World.frozen?_setCell, World.frozen?_setCell]; assumption)
theorem below_set4 {B : Nat} {w0 : World} (h : Below B w0 w) (hR : B ≤ R) (x y z u : Value) : Below B w0 (set4 w R x y z u) :=
 (((h.setCell (p := ⟨R, 0, none⟩) hR x).setCell (p := ⟨R, 1, none⟩) hR y).setCell (p := ⟨R, 2, none⟩) hR z).setCell (p := ⟨R, 3, none⟩) hR u
theorem Box4.last {w0 : World} (h : Box4 w R a b c d) (hb : Below w0.heap.size w0 w) (hR : w0.heap.size ≤ R) (x y z u : Value) :
  ((((w.setCell ⟨R, 0, none⟩ x).setCell ⟨R, 1, none⟩ y).setCell ⟨R, 2, none⟩ z).setCell ⟨R, 3, none⟩ u).cell? ⟨R, 0, none⟩ = some x ∧
  ((((w.setCell ⟨R, 0, none⟩ x).setCell ⟨R, 1, none⟩ y).setCell ⟨R, 2, none⟩ z).setCell ⟨R, 3, none⟩ u).cell? ⟨R, 1, none⟩ = some y ∧
  ((((w.setCell ⟨R, 0, none⟩ x).setCell ⟨R, 1, none⟩ y).setCell ⟨R, 2, none⟩ z).setCell ⟨R, 3, none⟩ u).cell? ⟨R, 2, none⟩ = some z ∧
  ((((w.setCell ⟨R, 0, none⟩ x).setCell ⟨R, 1, none⟩ y).setCell ⟨R, 2, none⟩ z).setCell ⟨R, 3, none⟩ u).cell? ⟨R, 3, none⟩ = some u ∧
  Below w0.heap.size w0 ((((w.setCell ⟨R, 0, none⟩ x).setCell ⟨R, 1, none⟩ y).setCell ⟨R, 2, none⟩ z).setCell ⟨R, 3, none⟩ u) := by
 have h4 := h.set4 x y z u
 have hb4 := below_set4 (R := R) hb hR x y z u
 unfold Go.Proofs.YtlcgfdijohgnpaaGreatDoor.set4 at h4 hb4
 exact ⟨h4.c0, h4.c1, h4.c2, h4.c3, hb4⟩
abbrev zero4 (w : World) (R : Nat) : Prop := Box4 w R (.int .i64 0) (.int .i64 0) (.string ⟨#[]⟩) (.slice none 0 0)
end Go.Proofs.YtlcgfdijohgnpaaGreatDoor
