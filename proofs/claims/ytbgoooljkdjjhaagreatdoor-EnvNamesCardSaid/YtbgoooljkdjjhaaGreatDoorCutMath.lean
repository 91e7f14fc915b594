/-
  What stands up to a byte of a list, and behind it. No model in this text.
-/
import Derived.Test.YtbgoooljkdjjhaaGreatDoorValueMath
import Derived.Lib.CutLaws
import Derived.Lib.IndexMore
namespace Go.Proofs.YtbgoooljkdjjhaaGreatDoor

theorem indexD_cons (d c : UInt8) (l : List UInt8) : Lib.index (c :: l) [d] = if c = d then 0 else if Lib.index l [d] = -1 then -1 else Lib.index l [d] + 1 := by
  by_cases h : c = d
  · subst h; rw [Lib.index]; simp [List.isPrefixOf]
  · have hp : ([d] : List UInt8).isPrefixOf (c :: l) = false := by simp [List.isPrefixOf, Ne.symm h]
    rw [Lib.index, hp, if_neg h]; simp
def upTo (d : UInt8) (l : List UInt8) : List UInt8 := l.takeWhile (· != d)
def after (d : UInt8) (l : List UInt8) : List UInt8 := (l.dropWhile (· != d)).drop 1
theorem upTo_cons {d c : UInt8} {r : List UInt8} (h : c ≠ d) : upTo d (c :: r) = c :: upTo d r := by
  unfold upTo
  rw [List.takeWhile_cons, if_pos (by simpa using h)]
theorem upTo_sep (d : UInt8) (r : List UInt8) : upTo d (d :: r) = [] := by unfold upTo; simp
theorem after_cons {d c : UInt8} {r : List UInt8} (h : c ≠ d) : after d (c :: r) = after d r := by
  unfold after
  rw [List.dropWhile_cons, if_pos (by simpa using h)]
theorem after_sep (d : UInt8) (r : List UInt8) : after d (d :: r) = r := by unfold after; simp
theorem has_cons {d c : UInt8} {r : List UInt8} (h : c ≠ d) : (c :: r).contains d = r.contains d := by
  have : (d == c) = false := by simpa using fun e => h e.symm
  rw [List.contains_cons, this, Bool.false_or]
theorem index_is (d : UInt8) (l : List UInt8) : Lib.index l [d] = if l.contains d then ((upTo d l).length : Int) else -1 := by
  induction l with
  | nil => rfl
  | cons c r ih =>
    rw [indexD_cons]
    by_cases h : c = d
    · subst h
      rw [if_pos rfl, upTo_sep, if_pos (by simp)]; rfl
    · rw [if_neg h, has_cons h, upTo_cons h, ih]
      by_cases hc : r.contains d = true
      · rw [if_pos hc, if_pos hc, if_neg (by omega), List.length_cons]; omega
      · rw [if_neg hc, if_neg hc, if_pos rfl]
theorem whole_is (d : UInt8) (l : List UInt8) (h : l.contains d = true) : l = upTo d l ++ d :: after d l := by
  induction l with
  | nil => simp at h
  | cons c r ih =>
    by_cases e : c = d
    · subst e; rw [upTo_sep, after_sep]; rfl
    · rw [has_cons e] at h
      rw [upTo_cons e, after_cons e, List.cons_append, ← ih h]
theorem upTo_none {d : UInt8} {l : List UInt8} (h : l.contains d = false) : upTo d l = l := by
  induction l with
  | nil => rfl
  | cons c r ih =>
    have e : c ≠ d := fun e => by subst e; simp at h
    rw [has_cons e] at h
    rw [upTo_cons e, ih h]
theorem cut_is (d : UInt8) (l : List UInt8) : Lib.cut l [d] = if l.contains d then (upTo d l, after d l, true) else (l, [], false) := by
  unfold Lib.cut
  rw [index_is]
  by_cases h : l.contains d = true
  · rw [if_pos h, if_pos h, if_pos (by omega)]
    have hw := whole_is d l h
    have e : (((upTo d l).length : Int)).toNat = (upTo d l).length := by omega
    rw [e]
    generalize upTo d l = a at *
    generalize after d l = b at *
    subst hw
    simp [List.drop_append]
  · rw [if_neg h, if_neg h, if_neg (by omega)]
end Go.Proofs.YtbgoooljkdjjhaaGreatDoor
