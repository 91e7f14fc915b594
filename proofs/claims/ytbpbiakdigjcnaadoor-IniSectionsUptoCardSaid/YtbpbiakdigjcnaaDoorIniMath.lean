/-
  The plain mathematics of chapter 6: lines, sections, names, texts; what a file gives. No model in this text.
-/
import Derived.Test.YtbpbiakdigjcnaaDoorGlyphNames3
import Derived.Test.YtbpbiakdigjcnaaDoorGlyphUnquote4
import Derived.Test.YtbpbiakdigjcnaaDoorGlyphQuote
import Derived.Test.YtbpbiakdigjcnaaDoorValueMath
import Derived.Lib.SlTrimSet
import Derived.Lib.SplitLaws
import Derived.Lib.CutLaws
import Derived.Lib.IndexMore
namespace Go.Proofs.YtbpbiakdigjcnaaDoor

/-! What is cut at a byte -/
def cuts (d : UInt8) : List UInt8 → List (List UInt8)
  | [] => [[]]
  | c :: r => if c = d then [] :: cuts d r else match cuts d r with
    | [] => [[c]]
    | p :: ps => (c :: p) :: ps
theorem cuts_pos (d : UInt8) (l : List UInt8) : cuts d l ≠ [] := by
  cases l with
  | nil => simp [cuts]
  | cons c r =>
    rw [cuts]; split
    · simp
    · split <;> simp
theorem cuts_sep (d : UInt8) (r : List UInt8) : cuts d (d :: r) = [] :: cuts d r := by rw [cuts, if_pos rfl]
theorem cuts_cons {d c : UInt8} {r : List UInt8} (h : c ≠ d) : ∃ p ps, cuts d r = p :: ps ∧ cuts d (c :: r) = (c :: p) :: ps := by
  cases hp : cuts d r with
  | nil => exact absurd hp (cuts_pos d r)
  | cons p ps => exact ⟨p, ps, rfl, by rw [cuts, if_neg h, hp]⟩
theorem cuts_count (d : UInt8) (l : List UInt8) : (cuts d l).length = l.count d + 1 := by
  induction l with
  | nil => rfl
  | cons c r ih =>
    by_cases h : c = d
    · subst h; rw [cuts_sep]; simp [ih]
    · obtain ⟨p, ps, h1, h2⟩ := cuts_cons (r := r) h
      rw [h2, List.count_cons_of_ne (by simpa using h), ← ih, h1]; simp
theorem indexD_cons (d c : UInt8) (l : List UInt8) : Lib.index (c :: l) [d] = if c = d then 0 else if Lib.index l [d] = -1 then -1 else Lib.index l [d] + 1 := by
  by_cases h : c = d
  · subst h; rw [Lib.index]; simp [List.isPrefixOf]
  · have hp : ([d] : List UInt8).isPrefixOf (c :: l) = false := by simp [List.isPrefixOf, Ne.symm h]
    rw [Lib.index, hp, if_neg h]; simp
theorem cutK_sep (d : UInt8) (k : Nat) (r : List UInt8) : Lib.splitK [d] 0 (k + 1) (d :: r) = [] :: Lib.splitK [d] 0 k r := by
  rw [Lib.splitK, indexD_cons, if_pos rfl]; simp
theorem cutK_cons {d c : UInt8} (h : c ≠ d) (k : Nat) (r : List UInt8) : ∃ p ps, Lib.splitK [d] 0 k r = p :: ps ∧ Lib.splitK [d] 0 k (c :: r) = (c :: p) :: ps := by
  cases k with
  | zero => exact ⟨r, [], rfl, rfl⟩
  | succ k =>
    have hi := indexD_cons d c r
    rw [if_neg h] at hi
    by_cases hm : Lib.index r [d] = -1
    · rw [if_pos hm] at hi
      exact ⟨r, [], by rw [Lib.splitK, hm]; rfl, by rw [Lib.splitK, hi]; rfl⟩
    · rw [if_neg hm] at hi
      have hge := Lib.index_ge r [d]
      obtain ⟨j, hj⟩ : ∃ j : Nat, Lib.index r [d] = j := ⟨(Lib.index r [d]).toNat, by omega⟩
      rw [hj] at hi
      refine ⟨r.take j, Lib.splitK [d] 0 k (r.drop (j + 1)), ?_, ?_⟩
      · rw [Lib.splitK, hj, if_neg (by simp)]
        have : ((j : Int)).toNat = j := by omega
        rw [this]; simp
      · rw [Lib.splitK, hi, if_neg (by simp; omega)]
        have : ((j : Int) + 1).toNat = j + 1 := by omega
        rw [this]; simp
theorem cutK_all (d : UInt8) (l : List UInt8) : Lib.splitK [d] 0 (l.count d) l = cuts d l := by
  induction l with
  | nil => rfl
  | cons c r ih =>
    by_cases h : c = d
    · subst h; rw [List.count_cons_self, cutK_sep, ih, cuts_sep]
    · rw [List.count_cons_of_ne (by simpa using h)]
      obtain ⟨p, ps, h1, h2⟩ := cutK_cons h (r.count d) r
      obtain ⟨p', ps', h3, h4⟩ := cuts_cons (r := r) h
      rw [h2, h4]
      rw [ih, h3] at h1
      obtain ⟨rfl, rfl⟩ : p' = p ∧ ps' = ps := by simpa using h1
      rfl

def upTo (d : UInt8) (l : List UInt8) : List UInt8 := l.takeWhile (· != d)
def after (d : UInt8) (l : List UInt8) : List UInt8 := (l.dropWhile (· != d)).drop 1
theorem upTo_cons {d c : UInt8} {r : List UInt8} (h : c ≠ d) : upTo d (c :: r) = c :: upTo d r := by
  unfold upTo
  rw [List.takeWhile_cons, if_pos (by simpa using h)]
theorem upTo_sep (d : UInt8) (r : List UInt8) : upTo d (d :: r) = [] := by unfold upTo; simp
theorem after_cons {d c : UInt8} {r : List UInt8} (h : c ≠ d) : after d (c :: r) = after d r := by
  unfold after
  rw [List.dropWhile_cons, if_pos (by simpa using h)]
theorem after_sep (d : UInt8) (r : List UInt8) : after d (d :: r) = r := by unfold after; simp
theorem has_cons {d c : UInt8} {r : List UInt8} (h : c ≠ d) : (c :: r).contains d = r.contains d := by
  have : (d == c) = false := by simpa using fun e => h e.symm
  rw [List.contains_cons, this, Bool.false_or]
theorem index_is (d : UInt8) (l : List UInt8) : Lib.index l [d] = if l.contains d then ((upTo d l).length : Int) else -1 := by
  induction l with
  | nil => rfl
  | cons c r ih =>
    rw [indexD_cons]
    by_cases h : c = d
    · subst h
      rw [if_pos rfl, upTo_sep, if_pos (by simp)]; rfl
    · rw [if_neg h, has_cons h, upTo_cons h, ih]
      by_cases hc : r.contains d = true
      · rw [if_pos hc, if_pos hc, if_neg (by omega), List.length_cons]; omega
      · rw [if_neg hc, if_neg hc, if_pos rfl]
theorem whole_is (d : UInt8) (l : List UInt8) (h : l.contains d = true) : l = upTo d l ++ d :: after d l := by
  induction l with
  | nil => simp at h
  | cons c r ih =>
    by_cases e : c = d
    · subst e; rw [upTo_sep, after_sep]; rfl
    · rw [has_cons e] at h
      rw [upTo_cons e, after_cons e, List.cons_append, ← ih h]
theorem upTo_none {d : UInt8} {l : List UInt8} (h : l.contains d = false) : upTo d l = l := by
  induction l with
  | nil => rfl
  | cons c r ih =>
    have e : c ≠ d := fun e => by subst e; simp at h
    rw [has_cons e] at h
    rw [upTo_cons e, ih h]
theorem cut_is (d : UInt8) (l : List UInt8) : Lib.cut l [d] = if l.contains d then (upTo d l, after d l, true) else (l, [], false) := by
  unfold Lib.cut
  rw [index_is]
  by_cases h : l.contains d = true
  · rw [if_pos h, if_pos h, if_pos (by omega)]
    have hw := whole_is d l h
    have e : (((upTo d l).length : Int)).toNat = (upTo d l).length := by omega
    rw [e]
    generalize upTo d l = a at *
    generalize after d l = b at *
    subst hw
    simp [List.drop_append]
  · rw [if_neg h, if_neg h, if_neg (by omega)]

/-! Lines -/
/-- A line that gives something. -/
structure LineV where
  name : ByteArray
  text : ByteArray
  num : Int
def bl : List UInt8 := [32, 9]
def trimL (l : List UInt8) : List UInt8 := Lib.trimLeftS l bl
def trimR (l : List UInt8) : List UInt8 := Lib.trimRightS l bl
def trimB (l : List UInt8) : List UInt8 := Lib.trimS l bl
/-- A part of a name. -/
def isPartB (l : List UInt8) : Bool := partB l
/-- 0, 1 or 2 parts. -/
def secB (l : List UInt8) : Bool := l.isEmpty || (partB (upTo 46 l) && (!l.contains 46 || partB (after 46 l)))
def plainB (l : List UInt8) : Bool := l.all fun c => printB c.toNat
/-- What a text means. -/
def meantB (t : List UInt8) : Option (List UInt8) :=
  let m := if t.head? = some 34 then unqL t else if plainB t then some t else none
  m.bind fun u => if u.length ≤ 200 then some u else none
def givenB (out : List LineV) (nm : List UInt8) : Bool := out.any fun v => decide (v.name.data.toList = nm)
def says (x : List UInt8) : Bool := !(x.isEmpty || x.head? == some 59 || x.head? == some 35)
/-- What stands behind the bracket of a section. -/
def secOf (p : List UInt8) : Option (List UInt8) :=
  if p.getLast? = some 93 ∧ secB p.dropLast = true then some (if p.dropLast.isEmpty then [] else p.dropLast ++ [46]) else none
/-- What a line does. -/
def stepB (num : Nat) (st : List UInt8 × List LineV) (x : List UInt8) : Option (List UInt8 × List LineV) :=
  if says x = false then some st
  else if x.head? = some 91 then (secOf (x.drop 1)).map fun a => (a, st.2)
  else if x.contains 61 = true ∧ givenB st.2 (st.1 ++ trimR (upTo 61 x)) = false ∧ nameB (st.1 ++ trimR (upTo 61 x)) = true then
    (meantB (trimL (after 61 x))).map fun t => (st.1, st.2 ++ [⟨mkB (st.1 ++ trimR (upTo 61 x)), mkB t, num⟩])
  else none
def runB (num : Nat) (st : List UInt8 × List LineV) : List (List UInt8) → Sum Nat (List LineV)
  | [] => .inr st.2
  | x :: r => match stepB num st (trimB x) with
    | none => .inl num
    | some st' => runB (num + 1) st' r
/-- What a file gives: its lines, an error, the number of the line that is wrong. -/
def parseB (s : List UInt8) : List LineV × Int × Int :=
  if 8000 < s.length then ([], 61, 0) else match runB 1 ([], []) (cuts 10 s) with
    | .inl n => ([], 60, n)
    | .inr out => (out, 0, 0)
end Go.Proofs.YtbpbiakdigjcnaaDoor
