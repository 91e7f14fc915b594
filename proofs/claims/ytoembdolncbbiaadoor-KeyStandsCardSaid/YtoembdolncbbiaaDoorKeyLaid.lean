/-
  What the listed tables of the row keyStandsRow give a walk; the start that meets the condition.
-/
import Derived.Test.YtoembdolncbbiaaDoorLawKit
namespace Go.Proofs.YtoembdolncbbiaaDoor
open Go.ChangeShapes Go.WideShapes Go.ChangeAt Go.RowKit

/-- The names of the listed tables, off the given row. -/
def nmKeyLaid (i : Nat) : String := ((Rows.keyStandsRow.laid.map Prod.fst)[i]?).getD default
def laidLKeyLaid : List (String × DataW Unit) := [(nmKeyLaid 0, Rows.laid_unicode_utf8_acceptRanges), (nmKeyLaid 1, (Lib.tabData .u8 (tabOf 0))), (nmKeyLaid 2, (Lib.tabData .u8 (tabOf 1))), (nmKeyLaid 3, (Lib.tabData .u8 (tabOf 2))), (nmKeyLaid 4, (Lib.tabData .u8 (tabOf 3))), (nmKeyLaid 5, Rows.laid_tinderbox_value_units), (nmKeyLaid 6, Rows.laid_unicode_utf8_first)]
theorem laid_isKeyLaid : Rows.keyStandsRow.laid = laidLKeyLaid := by kernel_rfl
set_option maxRecDepth 100000 in
theorem stdKeyLaid {W : World} (h : laidMetH Tryd.prog Rows.keyStandsRow.laid W) (hsh : W.ShapedOpen Tryd.prog) : Tab W ∧ Units W ∧ MaxI W := by
  rw [MakeChecks.laidMetH_plain _ _ _ (by kernel_rfl), laid_isKeyLaid] at h
  have h0 := h
  have h1 := laidMet.tail (h0 : laidMet Tryd.prog (_ :: _) W)
  have h2 := laidMet.tail (h1 : laidMet Tryd.prog (_ :: _) W)
  have h3 := laidMet.tail (h2 : laidMet Tryd.prog (_ :: _) W)
  have h4 := laidMet.tail (h3 : laidMet Tryd.prog (_ :: _) W)
  have h5 := laidMet.tail (h4 : laidMet Tryd.prog (_ :: _) W)
  have h6 := laidMet.tail (h5 : laidMet Tryd.prog (_ :: _) W)
  have t0 := Lib.tabIs_of_head (g := 1) (t := 124) (by kernel_rfl) (by kernel_rfl) Tryd.underlying124 Tryd.underlying5 cells1 cells32 h1
  have t1 := Lib.tabIs_of_head (g := 2) (t := 124) (by kernel_rfl) (by kernel_rfl) Tryd.underlying124 Tryd.underlying5 cells1 cells32 h2
  have t2 := Lib.tabIs_of_head (g := 3) (t := 124) (by kernel_rfl) (by kernel_rfl) Tryd.underlying124 Tryd.underlying5 cells1 cells32 h3
  have t3 := Lib.tabIs_of_head (g := 4) (t := 124) (by kernel_rfl) (by kernel_rfl) Tryd.underlying124 Tryd.underlying5 cells1 cells32 h4
  have hu : Units W := by
    obtain ⟨ps, ⟨g', t', cs, fuel, p, q, hg', ht', hvar, hd, _, _⟩, _⟩ := h5
    have eg : some g' = some 7 := hg'.symm.trans (by kernel_rfl)
    obtain rfl := Option.some.inj eg
    have et : some t' = some 143 := ht'.symm.trans (by kernel_rfl)
    obtain rfl := Option.some.inj et
    have hcs := units_cells hd
    obtain ⟨t, fr, hh⟩ := heap_of_var hg' hvar
    refine ⟨t, fr, ?_⟩
    rw [hh, ← hcs]
  refine ⟨⟨fun i hi => ?_, fun i hi => ?_, fun i hi => ?_, fun i hi => ?_⟩, hu, maxI_of_shaped hsh⟩
  · rw [t0.cell (by kernel_rfl) i (by simp [tabOf]; omega), tab_at 0 i hi]; congr 3; omega
  · rw [t1.cell (by kernel_rfl) i (by simp [tabOf]; omega), tab_at 1 i hi]; congr 3
  · rw [t2.cell (by kernel_rfl) i (by simp [tabOf]; omega), tab_at 2 i hi]; congr 3
  · rw [t3.cell (by kernel_rfl) i (by simp [tabOf]; omega), tab_at 3 i hi]; congr 3
theorem doorKeyLaid (os : Os) (args : Array Value) : laidMetH Tryd.prog Rows.keyStandsRow.laid ((World.laidAll Tryd.prog os Rows.keyStandsRow.laid).forCall (fun _ _ => 0) ⟨#[], args, []⟩).memory := by
  rw [MakeChecks.laidMetH_plain _ _ _ (by kernel_rfl)]; exact laidMet_laidAll _ (by kernel_rfl) (by kernel_rfl)
end Go.Proofs.YtoembdolncbbiaaDoor
