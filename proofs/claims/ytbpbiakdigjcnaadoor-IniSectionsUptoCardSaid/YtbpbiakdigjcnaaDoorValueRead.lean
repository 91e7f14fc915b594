/-
  The walks of package value over the runes of a text: 'isText', 'digits', 'said', 'number', 'isList'.
-/
import Derived.Test.YtbpbiakdigjcnaaDoorValueMath
import Derived.Laws.RangeAny
import Derived.LoopTactic
import Derived.IntWalk
import Derived.Outline
namespace Go.Proofs.YtbpbiakdigjcnaaDoor
open Go.ChangeShapes Go.WideShapes Go.ChangeAt Go.RowKit

theorem below_iter (w : World) (s : ByteArray) (pos : Nat) : Below w.heap.size w (w.iter s pos) := (Below.refl _ _).alloc (Nat.le_refl _) _
theorem allText_cons (c : UInt8) (r : List UInt8) : allText (c :: r) = (printB c.toNat && allText r) := by simp [allText]
theorem printB_high {b : Int} (h : 126 < b) : printB b = false := by simp [printB]; intros; omega

theorem cls_digit {b : Int} : cls b = 3 ↔ 48 ≤ b ∧ b ≤ 57 := by
  unfold cls; repeat' split
  all_goals omega
theorem takeWhile_cons_yes {c : UInt8} {r : List UInt8} (h : isD c = true) : (c :: r).takeWhile isD = c :: r.takeWhile isD := by simp [List.takeWhile, h]
theorem takeWhile_cons_no {c : UInt8} {r : List UInt8} (h : isD c = false) : (c :: r).takeWhile isD = [] := by simp [List.takeWhile, h]
/-- How many digits a text begins with. -/
def nDig (l : List UInt8) : Nat := (l.takeWhile isD).length
theorem nDig_yes {c : UInt8} {r : List UInt8} (h : isD c = true) : nDig (c :: r) = nDig r + 1 := by simp [nDig, takeWhile_cons_yes h]
theorem nDig_no {c : UInt8} {r : List UInt8} (h : isD c = false) : nDig (c :: r) = 0 := by simp [nDig, takeWhile_cons_no h]
theorem nDig_le (l : List UInt8) : nDig l ≤ l.length := (List.takeWhile_sublist _).length_le
theorem ret_int {k : IntKind} {a b : Int} (h : a = b) : Ending.returned (.int k a) = .returned (.int k b) := by rw [h]

theorem nDig_take (l : List UInt8) : l.take (nDig l) = l.takeWhile isD := by
  unfold nDig
  induction l with
  | nil => rfl
  | cons c r ih =>
    by_cases h : isD c = true
    · rw [takeWhile_cons_yes h]; simp [ih]
    · rw [takeWhile_cons_no (by simpa using h)]; simp
theorem nDig_drop (l : List UInt8) : l.drop (nDig l) = l.dropWhile isD := by
  unfold nDig
  induction l with
  | nil => rfl
  | cons c r ih =>
    by_cases h : isD c = true
    · rw [takeWhile_cons_yes h]; simp [ih, List.dropWhile, h]
    · have h' : isD c = false := by simpa using h
      rw [takeWhile_cons_no h']; simp [List.dropWhile, h']
theorem takeWhile_all (l : List UInt8) : (l.takeWhile isD).all isD = true := by simp

/-- What 'number' answers. -/
def numOkS (l : List UInt8) : Bool := numOk (l.takeWhile isD)
theorem numOkS_zero {l : List UInt8} (h : nDig l = 0) : numOkS l = false := by
  have : l.takeWhile isD = [] := List.eq_nil_of_length_eq_zero h
  unfold numOkS; rw [this]; rfl
theorem first_of {s : ByteArray} (h : 0 < s.size) : s.data.toList = s[0] :: s.data.toList.drop 1 := by
  have := drop_byte s 0 h; simpa using this
theorem numOk_iff (c : UInt8) (r : List UInt8) : numOk (c :: r) = ((c :: r).all isD && (c != 48 || r.isEmpty)) := rfl
theorem numOkS_lead {s : ByteArray} (h0 : 0 < s.size) (h : 1 < nDig s.data.toList) (h48 : s[0].toNat = 48) : numOkS s.data.toList = false := by
  unfold numOkS
  have hs := first_of h0
  have hc : s[0] = 48 := UInt8.toNat_inj.1 h48
  have hd : isD s[0] = true := by simp [isD, hc]
  rw [hs, takeWhile_cons_yes hd, numOk_iff, hc]
  rw [hs, nDig_yes hd] at h
  have : ((s.data.toList.drop 1).takeWhile isD).isEmpty = false := by
    cases hh : (s.data.toList.drop 1).takeWhile isD with
    | nil => unfold nDig at h; rw [hh] at h; simp at h
    | cons a b => rfl
  rw [this]; simp
theorem numOkS_yes {s : ByteArray} (h0 : 0 < s.size) (h : 0 < nDig s.data.toList) (hq : s[0].toNat ≠ 48 ∨ nDig s.data.toList ≤ 1) : numOkS s.data.toList = true := by
  unfold numOkS
  have hs := first_of h0
  have hall := takeWhile_all s.data.toList
  by_cases hd : isD s[0] = true
  · rw [hs, takeWhile_cons_yes hd] at hall ⊢
    rw [numOk_iff, hall]
    rcases hq with hq | hq
    · have : (s[0] != 48) = true := by simpa using fun e => hq (by rw [e]; rfl)
      rw [this]; rfl
    · rw [hs, nDig_yes hd] at hq
      have : (s.data.toList.drop 1).takeWhile isD = [] := List.eq_nil_of_length_eq_zero (by unfold nDig at hq; omega)
      rw [this]; simp
  · rw [hs, nDig_no (by simpa using hd)] at h; omega

theorem str_extract (s : ByteArray) (a b : Nat) : (s.extract a b).data.toList = (s.data.toList.drop a).take (b - a) := by
  rw [Lib.extract_data]

end Go.Proofs.YtbpbiakdigjcnaaDoor
