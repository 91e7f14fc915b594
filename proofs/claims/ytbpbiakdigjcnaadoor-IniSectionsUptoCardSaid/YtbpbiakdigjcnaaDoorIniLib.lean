/-
  The library's functions that package ini calls, each with what it answers.
-/
import Derived.Test.YtbpbiakdigjcnaaDoorIniMath
import Derived.Test.YtbpbiakdigjcnaaDoorValueLib
import Derived.Shelf.Strings.SlTrimAscii
namespace Go.Proofs.YtbpbiakdigjcnaaDoor
open Go.ChangeShapes Go.WideShapes Go.ChangeAt Go.RowKit

def blB : ByteArray := ⟨#[32, 9]⟩
theorem info116 : (Tryd.prog.info? (Tryd.lays160_ren.t 116)).map (fun i => (i.zero, i.size)) = some (some (.agg (Array.replicate 256 (.bool false))), 256) := by kernel_rfl
theorem bl_ascii : ∀ (j : Nat) b, blB.data.toList[j]? = some b → b.toNat < 128 := ascii_of_all (by decide)
theorem trim_any (s : ByteArray) (w : World) (hs : s.size ≤ 4294967280) :
    Calls Tryd.prog 39 #[.string s, .string blB] w fun e w' => e = .returned (.string (mkB (trimB s.data.toList))) ∧ Below w.heap.size w w' :=
  Any.strings_Trim_laid Tryd.lays160 info116 s blB w (by omega) (by decide) bl_ascii
theorem trimL_any (s : ByteArray) (w : World) :
    Calls Tryd.prog 70 #[.string s, .string blB] w fun e w' => e = .returned (.string (mkB (trimL s.data.toList))) ∧ Below w.heap.size w w' :=
  Any.strings_TrimLeft_laid Tryd.lays161 info116 s blB w (by decide) bl_ascii
theorem trimR_any (s : ByteArray) (w : World) (hs : s.size ≤ 4294967280) :
    Calls Tryd.prog 68 #[.string s, .string blB] w fun e w' => e = .returned (.string (mkB (trimR s.data.toList))) ∧ Below w.heap.size w w' :=
  Any.strings_TrimRight_laid Tryd.lays162 info116 s blB w (by omega) (by decide) bl_ascii
/-- What stands up to a byte, behind it, and whether it is there. -/
def cutV (d : UInt8) (l : List UInt8) : Value := if l.contains d then .tuple #[.string (mkB (upTo d l)), .string (mkB (after d l)), .bool true] else .tuple #[.string (mkB l), .string ⟨#[]⟩, .bool false]
theorem cutAt_any (d : UInt8) (s : ByteArray) (w : World) (hs : s.size ≤ 4294967280) (hm : MaxI w) :
    Calls Tryd.prog 67 #[.string s, .string ⟨#[d]⟩] w fun e w' => e = .returned (cutV d s.data.toList) ∧ Below w.heap.size w w' := by
  obtain ⟨m, hm⟩ := hm
  refine (Any.strings_Cut Tryd.lays145 s ⟨#[d]⟩ m w (by omega) hm).mono fun e w' ⟨he, n, hw⟩ => ⟨?_, by rw [hw]; exact below_drewN w n⟩
  rw [he]
  show Ending.returned (.tuple #[.string (mkB (Lib.cut s.data.toList [d]).1), .string (mkB (Lib.cut s.data.toList [d]).2.1), .bool (Lib.cut s.data.toList [d]).2.2]) = _
  rw [cut_is]
  unfold cutV
  by_cases h : s.data.toList.contains d = true
  · rw [if_pos h, if_pos h]
  · rw [if_neg h, if_neg h]; rfl
theorem quoted_any (s : ByteArray) (w : World) :
    Calls Tryd.prog 44 #[.string s, .string ⟨#[34]⟩] w fun e w' => e = .returned (.bool (decide (s.data.toList.head? = some 34))) ∧ w = w' :=
  (Any.strings_HasPrefix Tryd.lays99 s ⟨#[34]⟩ w).mono fun e w' ⟨he, hw⟩ => ⟨by
    rw [he]
    have : Lib.hasPrefix s.data.toList [34] = decide (s.data.toList.head? = some 34) := by
      cases s.data.toList with
      | nil => rfl
      | cons c r =>
        show ((34 : UInt8) == c && true) = _
        rw [Bool.and_true, List.head?_cons]
        by_cases h : c = 34
        · subst h; rfl
        · rw [decide_eq_false (fun e => h (Option.some.inj e)), beq_eq_false_iff_ne.2 (fun e => h e.symm)]
    show Ending.returned (.bool (Lib.hasPrefix s.data.toList [34])) = _
    rw [this], hw.symm⟩
/-- What stands ahead of a last byte, and whether it is the last one. -/
def sufV (d : UInt8) (l : List UInt8) : Value := if l.getLast? = some d then .tuple #[.string (mkB l.dropLast), .bool true] else .tuple #[.string (mkB l), .bool false]
theorem suffix_is (d : UInt8) (l : List UInt8) : Lib.hasSuffix l [d] = decide (l.getLast? = some d) := by
  unfold Lib.hasSuffix
  unfold List.isSuffixOf
  rcases List.eq_nil_or_concat l with rfl | ⟨a, b, rfl⟩
  · rfl
  · rw [List.concat_eq_append, List.reverse_append, show (a ++ [b]).getLast? = some b by simp]
    show ((d == b) && true) = _
    rw [Bool.and_true]
    by_cases h : b = d
    · subst h; simp
    · rw [beq_eq_false_iff_ne.2 (fun e => h e.symm), decide_eq_false (fun e => h (by simpa using e))]
theorem sufAt_any (d : UInt8) (s : ByteArray) (w : World) (hs : s.size ≤ 4294967280) :
    Calls Tryd.prog 64 #[.string s, .string ⟨#[d]⟩] w fun e w' => e = .returned (sufV d s.data.toList) ∧ w = w' :=
  (Any.strings_CutSuffix Tryd.lays104 s ⟨#[d]⟩ w (by omega)).mono fun e w' ⟨he, hw⟩ => ⟨by
    rw [he]
    show Ending.returned (.tuple #[.string (mkB (Lib.trimSuffix s.data.toList [d])), .bool (Lib.hasSuffix s.data.toList [d])]) = _
    unfold Lib.trimSuffix sufV
    rw [suffix_is]
    by_cases h : s.data.toList.getLast? = some d
    · rw [decide_eq_true h, if_pos rfl, if_pos h, List.dropLast_eq_take]; rfl
    · rw [decide_eq_false h, if_neg (by decide), if_neg h], hw.symm⟩
theorem countB_d (d : UInt8) (s : ByteArray) : Lib.countB s ⟨#[d]⟩ = s.data.toList.count d := by
  show Lib.count s.data.toList [d] = _
  exact Lib.count_one d _
theorem split_cuts (d : UInt8) (s : ByteArray) : Lib.splitB ⟨#[d]⟩ 0 (Lib.countB s ⟨#[d]⟩) s = (cuts d s.data.toList).map mkB := by
  rw [← cutK_all, ← countB_d, ← map_mkB (Lib.splitB ⟨#[d]⟩ 0 (Lib.countB s ⟨#[d]⟩) s), Lib.splitB_data]
/-- 'strings.Split' at a byte. -/
theorem splitAt_any (d : UInt8) (s : ByteArray) (w : World) (hs : s.size ≤ 4294967280) (hm : MaxI w) :
    Calls Tryd.prog 37 #[.string s, .string ⟨#[d]⟩] w fun e w' => e = .returned (.slice (some ⟨w.heap.size, 0, none⟩) (cuts d s.data.toList).length (cuts d s.data.toList).length) ∧ w' = w.alloc (.cells (((cuts d s.data.toList).map mkB).map Value.string).toArray 9) := by
  obtain ⟨m, hm⟩ := hm
  refine (Any.strings_Split Tryd.lays146 infoStr s ⟨#[d]⟩ m w (by omega) hm (by show 1 ≤ 1; decide)).mono fun e w' ⟨he, hw⟩ => ⟨?_, ?_⟩
  · rw [he, countB_d, cuts_count]
  · rw [hw, split_cuts]; rfl
end Go.Proofs.YtbpbiakdigjcnaaDoor
