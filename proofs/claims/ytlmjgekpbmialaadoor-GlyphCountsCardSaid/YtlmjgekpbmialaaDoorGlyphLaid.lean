/-
  What the listed tables of package glyph give a walk; a start that meets the condition; the end of a law that only makes new memory.
-/
import Derived.Test.YtlmjgekpbmialaaDoorGlyphSpec
import Derived.LaidMore
import Derived.Lib.LaidTab
import Derived.Stop.Joined
import Derived.Stop.LaidErr
namespace Go.Proofs.YtlmjgekpbmialaaDoor
open Go.ChangeShapes Go.WideShapes Go.ChangeAt Go.RowKit

theorem own : ownKnob Tryd.prog.godebug = none := by kernel_rfl
def tabOf (q : Nat) : List Int := (List.range 32).map fun i : Nat => cls (32 * q + i)
/-- The names of the listed tables, off the given row. -/
def nm (i : Nat) : String := ((Rows.glyphStandsRow.laid.map Prod.fst)[i]?).getD default
def laid4 : List (String × DataW Unit) := [(nm 0, Lib.tabData .u8 (tabOf 0)), (nm 1, Lib.tabData .u8 (tabOf 1)), (nm 2, Lib.tabData .u8 (tabOf 2)), (nm 3, Lib.tabData .u8 (tabOf 3))]
theorem laid_is : Rows.glyphStandsRow.laid = laid4 := by kernel_rfl
theorem tab_at (q i : Nat) (hi : i < 32) : (tabOf q).getD i 0 = cls (32 * q + i) := by
  simp [tabOf, List.getD, hi]
theorem cells1 : Tryd.prog.cellsOf 5 = 1 := by kernel_rfl
theorem cells32 : Tryd.prog.cellsOf 34 = 32 := by kernel_rfl

theorem tab_of_laid {W : World} (h : laidMetH Tryd.prog Rows.glyphStandsRow.laid W) : Tab W := by
  rw [MakeChecks.laidMetH_plain _ _ _ (by kernel_rfl), laid_is] at h
  have h' := laidMet.tail (h : laidMet Tryd.prog (_ :: _) W)
  have h'' := laidMet.tail (h' : laidMet Tryd.prog (_ :: _) W)
  have h''' := laidMet.tail (h'' : laidMet Tryd.prog (_ :: _) W)
  have h0 := Lib.tabIs_of_head (g := 0) (t := 34) (by kernel_rfl) (by kernel_rfl) Tryd.underlying34 Tryd.underlying5 cells1 cells32 h
  have h1 := Lib.tabIs_of_head (g := 1) (t := 34) (by kernel_rfl) (by kernel_rfl) Tryd.underlying34 Tryd.underlying5 cells1 cells32 h'
  have h2 := Lib.tabIs_of_head (g := 2) (t := 34) (by kernel_rfl) (by kernel_rfl) Tryd.underlying34 Tryd.underlying5 cells1 cells32 h''
  have h3 := Lib.tabIs_of_head (g := 3) (t := 34) (by kernel_rfl) (by kernel_rfl) Tryd.underlying34 Tryd.underlying5 cells1 cells32 h'''
  refine ⟨fun i hi => ?_, fun i hi => ?_, fun i hi => ?_, fun i hi => ?_⟩
  · rw [h0.cell (by kernel_rfl) i (by simp [tabOf]; omega), tab_at 0 i hi]; congr 3; omega
  · rw [h1.cell (by kernel_rfl) i (by simp [tabOf]; omega), tab_at 1 i hi]; congr 3
  · rw [h2.cell (by kernel_rfl) i (by simp [tabOf]; omega), tab_at 2 i hi]; congr 3
  · rw [h3.cell (by kernel_rfl) i (by simp [tabOf]; omega), tab_at 3 i hi]; congr 3

theorem door_met (os : Os) (args : Array Value) : laidMetH Tryd.prog Rows.glyphStandsRow.laid ((World.doorLaid Tryd.prog 400 os).forCall (fun _ _ => 0) ⟨#[], args, []⟩).memory :=
  laidMetH_of_parts3 (fuel := 8) (laidMet_of_run' 8 (by kernel_rfl) (by kernel_rfl)) (by kernel_rfl) (by kernel_rfl)

section
variable {H : Type} {enc : TypeId × Value → H} {P : Program}
/-- The end of a law: its one result is plain, and below the heap's old size all is as it was. -/
theorem lawPost {f : Func} {s : ChangeSpec} {apart fresh handsOn : Bool} {W W' : World} {args : Array Value} {v : Value} {ds gs : List (DataW H)} {before pa pv : List MemPlace}
    (hW : DataW.Whole enc P f.params.toList s.vars apart W args.toList ds gs before)
    (hres : ∀ (b : Nat) (sp : Nat → Bool) (hd : Bool), DataW.TrodAll enc P W' b sp hd f.resultTypes.toList (v.resultList f.resultTypes.size) (s.fn H (ds ++ gs)).results [])
    (hargs : ∀ sp : Nat → Bool, (∀ p ∈ before, sp p.block = true) → DataW.TrodAll enc P W' 0 sp true f.params.toList args.toList (s.fn H (ds ++ gs)).args pa)
    (hvars : ∀ sp : Nat → Bool, (∀ p ∈ before, sp p.block = true) → DataW.TrodVars enc P W' sp s.vars (s.fn H (ds ++ gs)).vars pv)
    (_hps : before = pa ++ pv) (hb : Below W.heap.size W W') : s.post enc P f apart fresh handsOn false W args v W' := by
  have hold : ∀ p ∈ before, (fun b => decide (b < W.heap.size)) p.block = true := fun p hp => by simpa using hW.lt p hp
  refine ⟨ds, gs, before, [], pa, pv, hW, hres _ _ _, hargs _ hold, hvars _ hold, hb.frame _, fun h => by cases h⟩
end
end Go.Proofs.YtlmjgekpbmialaaDoor
