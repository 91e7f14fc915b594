/-
  What the listed tables of the row envNamesRow give a walk; the start that meets the condition.
-/
import Derived.Test.YtbgoooljkdjjhaaGreatDoorLawKit
namespace Go.Proofs.YtbgoooljkdjjhaaGreatDoor
open Go.ChangeShapes Go.WideShapes Go.ChangeAt Go.RowKit

/-- The names of the listed tables, off the given row. -/
def nmEnvLaid (i : Nat) : String := ((Rows.envNamesRow.laid.map Prod.fst)[i]?).getD default
def laidLEnvLaid : List (String × DataW Unit) := [(nmEnvLaid 0, Rows.laid_unicode_utf8_acceptRanges), (nmEnvLaid 1, (Lib.tabData .u8 (tabOf 0))), (nmEnvLaid 2, (Lib.tabData .u8 (tabOf 1))), (nmEnvLaid 3, (Lib.tabData .u8 (tabOf 2))), (nmEnvLaid 4, (Lib.tabData .u8 (tabOf 3))), (nmEnvLaid 5, Rows.laid_tinderbox_value_units), (nmEnvLaid 6, Rows.laid_unicode_CaseRanges), (nmEnvLaid 7, Rows.laid_unicode_utf8_first)]
theorem laid_isEnvLaid : Rows.envNamesRow.laid = laidLEnvLaid := by kernel_rfl
set_option maxRecDepth 100000 in
theorem stdEnvLaid {W : World} (h : laidMetH Tryz.prog Rows.envNamesRow.laid W) (hsh : W.ShapedOpen Tryz.prog) : Tab W ∧ Units W ∧ MaxI W := by
  rw [MakeChecks.laidMetH_plain _ _ _ (by kernel_rfl), laid_isEnvLaid] at h
  have h0 := h
  have h1 := laidMet.tail (h0 : laidMet Tryz.prog (_ :: _) W)
  have h2 := laidMet.tail (h1 : laidMet Tryz.prog (_ :: _) W)
  have h3 := laidMet.tail (h2 : laidMet Tryz.prog (_ :: _) W)
  have h4 := laidMet.tail (h3 : laidMet Tryz.prog (_ :: _) W)
  have h5 := laidMet.tail (h4 : laidMet Tryz.prog (_ :: _) W)
  have h6 := laidMet.tail (h5 : laidMet Tryz.prog (_ :: _) W)
  have h7 := laidMet.tail (h6 : laidMet Tryz.prog (_ :: _) W)
  have t0 := Lib.tabIs_of_head (g := 0) (t := 120) (by kernel_rfl) (by kernel_rfl) Tryz.underlying120 Tryz.underlying5 cells1 cells32 h1
  have t1 := Lib.tabIs_of_head (g := 1) (t := 120) (by kernel_rfl) (by kernel_rfl) Tryz.underlying120 Tryz.underlying5 cells1 cells32 h2
  have t2 := Lib.tabIs_of_head (g := 2) (t := 120) (by kernel_rfl) (by kernel_rfl) Tryz.underlying120 Tryz.underlying5 cells1 cells32 h3
  have t3 := Lib.tabIs_of_head (g := 3) (t := 120) (by kernel_rfl) (by kernel_rfl) Tryz.underlying120 Tryz.underlying5 cells1 cells32 h4
  have hu : Units W := by
    obtain ⟨ps, ⟨g', t', cs, fuel, p, q, hg', ht', hvar, hd, _, _⟩, _⟩ := h5
    have eg : some g' = some 6 := hg'.symm.trans (by kernel_rfl)
    obtain rfl := Option.some.inj eg
    have et : some t' = some 168 := ht'.symm.trans (by kernel_rfl)
    obtain rfl := Option.some.inj et
    have hcs := units_cells hd
    obtain ⟨t, fr, hh⟩ := heap_of_var hg' hvar
    refine ⟨t, fr, ?_⟩
    rw [hh, ← hcs]
  refine ⟨⟨fun i hi => ?_, fun i hi => ?_, fun i hi => ?_, fun i hi => ?_⟩, hu, maxI_of_shaped hsh⟩
  · rw [t0.cell (by kernel_rfl) i (by simp [tabOf]; omega), tab_at 0 i hi]; congr 3; omega
  · rw [t1.cell (by kernel_rfl) i (by simp [tabOf]; omega), tab_at 1 i hi]; congr 3
  · rw [t2.cell (by kernel_rfl) i (by simp [tabOf]; omega), tab_at 2 i hi]; congr 3
  · rw [t3.cell (by kernel_rfl) i (by simp [tabOf]; omega), tab_at 3 i hi]; congr 3
theorem doorEnvLaid (os : Os) (args : Array Value) : laidMetH Tryz.prog Rows.envNamesRow.laid ((World.laidAll Tryz.prog os Rows.envNamesRow.laid).forCall (fun _ _ => 0) ⟨#[], args, []⟩).memory := by
  rw [MakeChecks.laidMetH_plain _ _ _ (by kernel_rfl)]; exact laidMet_laidAll _ (by kernel_rfl) (by kernel_rfl)
end Go.Proofs.YtbgoooljkdjjhaaGreatDoor
