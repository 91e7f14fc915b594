/-
  The walks of 'value.Unit', 'value.unitOf', 'value.bounds' and of the document's own 'Unit', 'most'.
-/
import Derived.Test.YtbpbiakdigjcnaaDoorValueLib
namespace Go.Proofs.YtbpbiakdigjcnaaDoor
open Go.ChangeShapes Go.WideShapes Go.ChangeAt Go.RowKit

/-- What stands in the table of units. -/
def unitCells : List Value := [.int .i64 3, .string ⟨#[]⟩, .int .i64 1, .int .i64 3, .string ⟨#[107]⟩, .int .i64 1024, .int .i64 3, .string ⟨#[109]⟩, .int .i64 1048576, .int .i64 3, .string ⟨#[103]⟩, .int .i64 1073741824, .int .i64 4, .string ⟨#[115]⟩, .int .i64 1, .int .i64 4, .string ⟨#[109]⟩, .int .i64 60, .int .i64 4, .string ⟨#[104]⟩, .int .i64 3600, .int .i64 4, .string ⟨#[100]⟩, .int .i64 86400]
theorem toList_eq (s : ByteArray) : s.toList = s.data.toList := ByteArray.toList_eq s
theorem toList_inj {a b : ByteArray} (h : a.toList = b.toList) : a = b := by
  rw [toList_eq, toList_eq] at h
  rw [← mkB_self a, ← mkB_self b, h]
/-- The rows of the table from the j-th on: what a unit stands for. -/
def unitRows : List (Int × ByteArray × Int) := [(3, ⟨#[]⟩, 1), (3, ⟨#[107]⟩, 1024), (3, ⟨#[109]⟩, 1048576), (3, ⟨#[103]⟩, 1073741824), (4, ⟨#[115]⟩, 1), (4, ⟨#[109]⟩, 60), (4, ⟨#[104]⟩, 3600), (4, ⟨#[100]⟩, 86400)]
def unitIn (k : Int) (s : ByteArray) : List (Int × ByteArray × Int) → Int
  | [] => 0
  | x :: r => if x.1 = k ∧ x.2.1 = s then x.2.2 else unitIn k s r
theorem bytes_eq (s : ByteArray) (l : List UInt8) : (⟨l.toArray⟩ : ByteArray) = s ↔ s.data.toList = l := by
  constructor
  · rintro rfl; rfl
  · intro h; rw [← h]
theorem unitIn_all (k : Int) (s : ByteArray) : unitIn k s unitRows = unitV k s.data.toList := by
  simp only [unitIn, unitRows, unitV, bytes_eq s]
  by_cases h3 : k = 3
  · subst h3; simp
  · by_cases h4 : k = 4
    · subst h4; simp
    · simp [Ne.symm h3, Ne.symm h4, h3, h4]
theorem ne_text {s : ByteArray} {l : List UInt8} (h : ¬ s.data.toList = l) : (s.toList == l) = false := by
  rw [toList_eq]; exact beq_eq_false_iff_ne.2 h
theorem eq_text {s : ByteArray} {l : List UInt8} (h : s.data.toList = l) : s = mkB l := by rw [← h, mkB_self]

end Go.Proofs.YtbpbiakdigjcnaaDoor
