/-
  What the listed tables of the row iniParsesRow give a walk; the start that meets the condition.
-/
import Derived.Test.YtbpbiakdigjcnaaDoorLawKit
namespace Go.Proofs.YtbpbiakdigjcnaaDoor
open Go.ChangeShapes Go.WideShapes Go.ChangeAt Go.RowKit

/-- The names of the listed tables, off the given row. -/
def nmIniLaid (i : Nat) : String := ((Rows.iniParsesRow.laid.map Prod.fst)[i]?).getD default
def laidLIniLaid : List (String × DataW Unit) := [(nmIniLaid 0, Rows.laid_unicode_utf8_acceptRanges), (nmIniLaid 1, (Lib.tabData .u8 (tabOf 0))), (nmIniLaid 2, (Lib.tabData .u8 (tabOf 1))), (nmIniLaid 3, (Lib.tabData .u8 (tabOf 2))), (nmIniLaid 4, (Lib.tabData .u8 (tabOf 3))), (nmIniLaid 5, Rows.laid_unicode_utf8_first)]
theorem laid_isIniLaid : Rows.iniParsesRow.laid = laidLIniLaid := by kernel_rfl
set_option maxRecDepth 100000 in
theorem stdIniLaid {W : World} (h : laidMetH Tryd.prog Rows.iniParsesRow.laid W) (hsh : W.ShapedOpen Tryd.prog) : Tab W ∧ MaxI W := by
  rw [MakeChecks.laidMetH_plain _ _ _ (by kernel_rfl), laid_isIniLaid] at h
  have h0 := h
  have h1 := laidMet.tail (h0 : laidMet Tryd.prog (_ :: _) W)
  have h2 := laidMet.tail (h1 : laidMet Tryd.prog (_ :: _) W)
  have h3 := laidMet.tail (h2 : laidMet Tryd.prog (_ :: _) W)
  have h4 := laidMet.tail (h3 : laidMet Tryd.prog (_ :: _) W)
  have h5 := laidMet.tail (h4 : laidMet Tryd.prog (_ :: _) W)
  have t0 := Lib.tabIs_of_head (g := 0) (t := 88) (by kernel_rfl) (by kernel_rfl) Tryd.underlying88 Tryd.underlying5 cells1 cells32 h1
  have t1 := Lib.tabIs_of_head (g := 1) (t := 88) (by kernel_rfl) (by kernel_rfl) Tryd.underlying88 Tryd.underlying5 cells1 cells32 h2
  have t2 := Lib.tabIs_of_head (g := 2) (t := 88) (by kernel_rfl) (by kernel_rfl) Tryd.underlying88 Tryd.underlying5 cells1 cells32 h3
  have t3 := Lib.tabIs_of_head (g := 3) (t := 88) (by kernel_rfl) (by kernel_rfl) Tryd.underlying88 Tryd.underlying5 cells1 cells32 h4
  refine ⟨⟨fun i hi => ?_, fun i hi => ?_, fun i hi => ?_, fun i hi => ?_⟩, maxI_of_shaped hsh⟩
  · rw [t0.cell (by kernel_rfl) i (by simp [tabOf]; omega), tab_at 0 i hi]; congr 3; omega
  · rw [t1.cell (by kernel_rfl) i (by simp [tabOf]; omega), tab_at 1 i hi]; congr 3
  · rw [t2.cell (by kernel_rfl) i (by simp [tabOf]; omega), tab_at 2 i hi]; congr 3
  · rw [t3.cell (by kernel_rfl) i (by simp [tabOf]; omega), tab_at 3 i hi]; congr 3
theorem doorIniLaid (os : Os) (args : Array Value) : laidMetH Tryd.prog Rows.iniParsesRow.laid ((World.laidAll Tryd.prog os Rows.iniParsesRow.laid).forCall (fun _ _ => 0) ⟨#[], args, []⟩).memory := by
  rw [MakeChecks.laidMetH_plain _ _ _ (by kernel_rfl)]; exact laidMet_laidAll _ (by kernel_rfl) (by kernel_rfl)
end Go.Proofs.YtbpbiakdigjcnaaDoor
