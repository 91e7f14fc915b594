/-
  The walks of 'value.unitOf' and of the document's own 'greatest', with the numeral's walk 'digits'.
-/
import Derived.Test.YtbgoooljkdjjhaaGreatDoorValueUnit
namespace Go.Proofs.YtbgoooljkdjjhaaGreatDoor
open Go.ChangeShapes Go.WideShapes Go.ChangeAt Go.RowKit

/-- The row that is found: the last one that fits. -/
def bestIn (k n : Int) : List (Int × ByteArray × Int) → Int × ByteArray × Int → Int × ByteArray × Int
  | [], cur => cur
  | x :: r, cur => bestIn k n r (if x.1 = k ∧ x.2.2 ≤ max n 1 ∧ n % x.2.2 = 0 then x else cur)
theorem fits {v n : Int} (hv : 2 ≤ v) : (v ≤ max n 1 ∧ n % v = 0) ↔ (0 < n ∧ n % v = 0) := by
  constructor
  · rintro ⟨h1, h2⟩; exact ⟨by omega, h2⟩
  · rintro ⟨h1, h2⟩
    refine ⟨?_, h2⟩
    rcases Int.lt_or_le n v with h | h
    · rw [Int.emod_eq_of_lt (by omega) h] at h2; omega
    · omega
theorem fits_one (n : Int) : (1 : Int) ≤ max n 1 ∧ n % 1 = 0 := ⟨by omega, by omega⟩
theorem best_all (k n : Int) (hk : k = 3 ∨ k = 4) : bestIn k n unitRows (0, ⟨#[]⟩, 1) = (k, mkB (unitFor k n).2, (unitFor k n).1) := by
  rcases hk with rfl | rfl
  · simp only [bestIn, unitRows, unitFor, fits (v := 1024) (by decide), fits (v := 1048576) (by decide), fits (v := 1073741824) (by decide), eq_true (fits_one n), true_and, if_true, show ((4 : Int) = 3) = False from by simp, false_and, if_false]
    by_cases h1 : 0 < n ∧ n % 1073741824 = 0
    · rw [if_pos h1, if_pos h1]; rfl
    rw [if_neg h1, if_neg h1]
    by_cases h2 : 0 < n ∧ n % 1048576 = 0
    · rw [if_pos h2, if_pos h2]; rfl
    rw [if_neg h2, if_neg h2]
    by_cases h3 : 0 < n ∧ n % 1024 = 0
    · rw [if_pos h3, if_pos h3]; rfl
    rw [if_neg h3, if_neg h3]; rfl
  · simp only [bestIn, unitRows, unitFor, fits (v := 60) (by decide), fits (v := 3600) (by decide), fits (v := 86400) (by decide), eq_true (fits_one n), true_and, and_true, if_true, show ((4 : Int) = 3) = False from by simp, show ((3 : Int) = 4) = False from by simp, false_and, if_false]
    by_cases h1 : 0 < n ∧ n % 86400 = 0
    · rw [if_pos h1, if_pos h1]; rfl
    rw [if_neg h1, if_neg h1]
    by_cases h2 : 0 < n ∧ n % 3600 = 0
    · rw [if_pos h2, if_pos h2]; rfl
    rw [if_neg h2, if_neg h2]
    by_cases h3 : 0 < n ∧ n % 60 = 0
    · rw [if_pos h3, if_pos h3]; rfl
    rw [if_neg h3, if_neg h3]; rfl

/-- A row that was found, in its block. -/
def Fnd (w : World) (F : Nat) (c : Int × ByteArray × Int) : Prop :=
  w.cell? ⟨F, 0, none⟩ = some (.int .i64 c.1) ∧ w.cell? ⟨F, 1, none⟩ = some (.string c.2.1) ∧ w.cell? ⟨F, 2, none⟩ = some (.int .i64 c.2.2) ∧
  w.frozen? ⟨F, 0, none⟩ = false ∧ w.frozen? ⟨F, 1, none⟩ = false ∧ w.frozen? ⟨F, 2, none⟩ = false

theorem gen_world {P : Program} {c : Code} {Q : Exit → Act → World → Prop} {a : Act} {w : World} (F : World → Prop) (hF : F w) (h : ∀ W, F W → Code.wp P c Q a W) : Code.wp P c Q a w := h w hF
theorem Fnd.lt {w : World} {F : Nat} {c : Int × ByteArray × Int} (h : Fnd w F c) : F < w.heap.size := lt_of_cell h.1
theorem Fnd.below {w w' : World} {F : Nat} {c : Int × ByteArray × Int} (h : Fnd w F c) (hb : Below w.heap.size w w') : Fnd w' F c := by
  have hl := h.lt
  obtain ⟨h0, h1, h2, z0, z1, z2⟩ := h
  exact ⟨by rw [hb.cell hl]; exact h0, by rw [hb.cell hl]; exact h1, by rw [hb.cell hl]; exact h2, by rw [hb.frozen hl]; exact z0, by rw [hb.frozen hl]; exact z1, by rw [hb.frozen hl]; exact z2⟩
def set3 (w : World) (F : Nat) (x y z : Value) : World := ((w.setCell ⟨F, 0, none⟩ x).setCell ⟨F, 1, none⟩ y).setCell ⟨F, 2, none⟩ z
theorem Fnd.set3 {w : World} {F : Nat} {c : Int × ByteArray × Int} (h : Fnd w F c) (d : Int × ByteArray × Int) : Fnd (set3 w F (.int .i64 d.1) (.string d.2.1) (.int .i64 d.2.2)) F d := by
  obtain ⟨h0, h1, h2, z0, z1, z2⟩ := h
  have a0 := World.cell?_setCell_same w ⟨F, 0, none⟩ (.int .i64 d.1) h0
  have a1 : (w.setCell ⟨F, 0, none⟩ (.int .i64 d.1)).cell? ⟨F, 1, none⟩ = some (.string c.2.1) := by rw [World.cell?_setCell_other _ _ _ _ (by simp), h1]
  have a2 : (w.setCell ⟨F, 0, none⟩ (.int .i64 d.1)).cell? ⟨F, 2, none⟩ = some (.int .i64 c.2.2) := by rw [World.cell?_setCell_other _ _ _ _ (by simp), h2]
  have b1 := World.cell?_setCell_same _ ⟨F, 1, none⟩ (.string d.2.1) a1
  have b2 : ((w.setCell ⟨F, 0, none⟩ (.int .i64 d.1)).setCell ⟨F, 1, none⟩ (.string d.2.1)).cell? ⟨F, 2, none⟩ = some (.int .i64 c.2.2) := by rw [World.cell?_setCell_other _ _ _ _ (by simp), a2]
  refine ⟨?_, ?_, World.cell?_setCell_same _ ⟨F, 2, none⟩ (.int .i64 d.2.2) b2, ?_, ?_, ?_⟩
  · unfold Go.Proofs.YtbgoooljkdjjhaaGreatDoor.set3; rw [World.cell?_setCell_other _ _ _ _ (by simp), World.cell?_setCell_other _ _ _ _ (by simp), a0]
  · unfold Go.Proofs.YtbgoooljkdjjhaaGreatDoor.set3; rw [World.cell?_setCell_other _ _ _ _ (by simp), b1]
  all_goals (unfold Go.Proofs.YtbgoooljkdjjhaaGreatDoor.set3; rw [World.frozen?_setCell, World.frozen?_setCell, World.frozen?_setCell]; assumption)
theorem apartF {F R : Nat} (h : ¬ F = R) (i j : Nat) : (⟨F, i, none⟩ : Addr) ≠ ⟨R, j, none⟩ := fun e => h (congrArg Addr.block e)
theorem Fnd.other {w : World} {F R : Nat} {c : Int × ByteArray × Int} (h : Fnd w R c) (hn : ¬ F = R) (x y z : Value) : Fnd (Go.Proofs.YtbgoooljkdjjhaaGreatDoor.set3 w F x y z) R c := by
  obtain ⟨h0, h1, h2, z0, z1, z2⟩ := h
  unfold Go.Proofs.YtbgoooljkdjjhaaGreatDoor.set3
  refine ⟨?_, ?_, ?_, ?_, ?_, ?_⟩
  · rw [World.cell?_setCell_other _ _ _ _ (apartF hn _ _), World.cell?_setCell_other _ _ _ _ (apartF hn _ _), World.cell?_setCell_other _ _ _ _ (apartF hn _ _)]; exact h0
  · rw [World.cell?_setCell_other _ _ _ _ (apartF hn _ _), World.cell?_setCell_other _ _ _ _ (apartF hn _ _), World.cell?_setCell_other _ _ _ _ (apartF hn _ _)]; exact h1
  · rw [World.cell?_setCell_other _ _ _ _ (apartF hn _ _), World.cell?_setCell_other _ _ _ _ (apartF hn _ _), World.cell?_setCell_other _ _ _ _ (apartF hn _ _)]; exact h2
  all_goals (rw [World.frozen?_setCell, World.frozen?_setCell, World.frozen?_setCell]; assumption)
theorem below_set3 {B : Nat} {a w : World} (h : Below B a w) {F : Nat} (hF : B ≤ F) (x y z : Value) : Below B a (Go.Proofs.YtbgoooljkdjjhaaGreatDoor.set3 w F x y z) :=
  ((h.setCell (p := ⟨F, 0, none⟩) hF x).setCell (p := ⟨F, 1, none⟩) hF y).setCell (p := ⟨F, 2, none⟩) hF z

end Go.Proofs.YtbgoooljkdjjhaaGreatDoor
