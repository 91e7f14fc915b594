/-
  ValueWord, ValueMath, CutMath, RefsMath.
-/
import Derived.Test.YtopghlnoklajkaaGreatDoorQGlyphNames2
import Derived.Lib.ItoaNum
import Derived.Lib.SplitLaws
import Derived.Lib.Join
import Derived.Lib.CutLaws
import Derived.Lib.IndexMore
import Derived.Test.YtopghlnoklajkaaGreatDoorQGlyphNames3

namespace Go.Proofs.YtopghlnoklajkaaGreatDoor

def isD (c : UInt8) : Bool := decide (48 ≤ c.toNat ∧ c.toNat ≤ 57)
def decS (n : Nat) (c : UInt8) : Nat := n * 10 + (c.toNat - 48)
def decAcc (n : Nat) (l : List UInt8) : Nat := l.foldl decS n
theorem decAcc_nil (n : Nat) : decAcc n [] = n := by unfold decAcc; rw [List.foldl_nil]
theorem decAcc_cons (n : Nat) (c : UInt8) (r : List UInt8) : decAcc n (c :: r) = decAcc (decS n c) r := by unfold decAcc; rw [List.foldl_cons]
theorem decS_eq (n : Nat) (c : UInt8) : decS n c = n * 10 + (c.toNat - 48) := by simp only [decS]
def dec (l : List UInt8) : Nat := decAcc 0 l
def bigN : Nat := 4611686018427387905
def capN (n : Nat) : Nat := min n bigN
def numOk (l : List UInt8) : Bool := l.all isD && (match l with | [] => false | c :: r => c != 48 || r.isEmpty)

theorem decAcc_ge (n : Nat) (l : List UInt8) : n ≤ decAcc n l := by
  induction l generalizing n with
  | nil => rw [decAcc_nil]; exact Nat.le_refl _
  | cons c r ih =>
    rw [decAcc_cons]
    have := ih (decS n c)
    rw [decS_eq] at this ⊢
    omega
theorem decAcc_append (n : Nat) (a b : List UInt8) : decAcc n (a ++ b) = decAcc (decAcc n a) b := by
  unfold decAcc; rw [List.foldl_append]
theorem cap_big {n : Nat} (h : 4611686018427387905 ≤ n) : capN n = 4611686018427387905 := by unfold capN bigN; omega
theorem cap_small {n : Nat} (h : n ≤ 4611686018427387904) : capN n = n := by unfold capN bigN; omega
theorem cap_le (n : Nat) : capN n ≤ 4611686018427387905 := by unfold capN bigN; omega

/-! Units -/
def unitV (k : Int) (s : List UInt8) : Int :=
  if k = 3 then (if s = [] then 1 else if s = [107] then 1024 else if s = [109] then 1048576 else if s = [103] then 1073741824 else 0)
  else if k = 4 then (if s = [115] then 1 else if s = [109] then 60 else if s = [104] then 3600 else if s = [100] then 86400 else 0)
  else 0
def mostV (k : Int) : Int := if k = 3 then 1125899906842624 else if k = 4 then 1099511627776 else 4611686018427387904
theorem unit_bd (k : Int) (s : List UInt8) : 0 ≤ unitV k s ∧ unitV k s ≤ 1073741824 := by
  unfold unitV; repeat' split
  all_goals omega

/-! What is read -/
structure Val where
  kind : Int
  int : Int
  text : ByteArray
  words : List ByteArray
def zeroV : Val := ⟨0, 0, ⟨#[]⟩, []⟩
def negOf : List UInt8 → Bool
  | [] => false
  | c :: _ => c == 45
def unsg (s : List UInt8) : List UInt8 := if negOf s then s.drop 1 else s
def wholeV (s : List UInt8) : Int × Int :=
  if numOk (unsg s) = false ∨ (negOf s = true ∧ dec (unsg s) = 0) then (0, 40)
  else if 4611686018427387904 < dec (unsg s) then (0, 41)
  else ((if negOf s then -(dec (unsg s) : Int) else (dec (unsg s) : Int)), 0)
def spanU (k : Int) (s : List UInt8) : Int := if k = 4 ∧ s = [48] then 1 else unitV k (s.dropWhile isD)
def unitedV (k : Int) (s : List UInt8) : Int × Int :=
  if numOk (s.takeWhile isD) = false ∨ spanU k s = 0 then (0, 40)
  else if mostV k / spanU k s < dec (s.takeWhile isD) then (0, 41)
  else ((dec (s.takeWhile isD) : Int) * spanU k s, 0)
def allText (s : List UInt8) : Bool := s.all fun c => printB c.toNat
def textV (s : List UInt8) : Int := if allText s = false then 40 else if 200 < s.length then 42 else 0
def pieces : List UInt8 → List (List UInt8)
  | [] => [[]]
  | c :: r => if c = 44 then [] :: pieces r else match pieces r with
    | [] => [[c]]
    | p :: ps => (c :: p) :: ps
def allWords (l : List (List UInt8)) : Bool := l.all wordB
def wordsV (s : List UInt8) : Int :=
  if s = [] then 0 else if allWords (pieces s) = false then 40 else if 200 < s.length ∨ 16 < (pieces s).length then 42 else 0
def boolV (s : List UInt8) : Int × Int :=
  if s = [116, 114, 117, 101] ∨ s = [121, 101, 115] ∨ s = [111, 110] then (1, 0)
  else if s = [102, 97, 108, 115, 101] ∨ s = [110, 111] ∨ s = [111, 102, 102] then (0, 0) else (0, 40)
def mkB (l : List UInt8) : ByteArray := ⟨l.toArray⟩
theorem mkB_data (l : List UInt8) : (mkB l).data.toList = l := rfl
theorem mkB_self (s : ByteArray) : mkB s.data.toList = s := by unfold mkB; simp
def intOk (k : Int) (r : Int × Int) : Val × Int := if r.2 = 0 then (⟨k, r.1, ⟨#[]⟩, []⟩, 0) else (zeroV, r.2)
def wordsOf (s : List UInt8) : List ByteArray := if s = [] then [] else (pieces s).map mkB
def parseV (k : Int) (s : ByteArray) : Val × Int :=
  if k = 1 then intOk 1 (boolV s.data.toList)
  else if k = 2 then intOk 2 (wholeV s.data.toList)
  else if k = 3 ∨ k = 4 then intOk k (unitedV k s.data.toList)
  else if k = 5 then (if textV s.data.toList = 0 then (⟨5, 0, s, []⟩, 0) else (zeroV, textV s.data.toList))
  else if k = 6 then (if wordsV s.data.toList = 0 then (⟨6, 0, ⟨#[]⟩, wordsOf s.data.toList⟩, 0) else (zeroV, wordsV s.data.toList))
  else (zeroV, 1)

/-! What may be, and what is printed -/
def wl (v : List ByteArray) : List (List UInt8) := v.map (·.data.toList)
def joinW (v : List ByteArray) : List UInt8 := Lib.join (wl v) [44]
def wordsRight (v : List ByteArray) : Bool := decide (v.length ≤ 16) && allWords (wl v) && decide ((joinW v).length ≤ 200)
def rightV (v : Val) : Bool :=
  if v.kind = 1 then decide (0 ≤ v.int ∧ v.int ≤ 1) && decide (v.text.data.toList = []) && decide (v.words.length = 0)
  else if v.kind = 2 then decide (-4611686018427387904 ≤ v.int ∧ v.int ≤ 4611686018427387904) && decide (v.text.data.toList = []) && decide (v.words.length = 0)
  else if v.kind = 3 ∨ v.kind = 4 then decide (0 ≤ v.int ∧ v.int ≤ mostV v.kind) && decide (v.text.data.toList = []) && decide (v.words.length = 0)
  else if v.kind = 5 then decide (v.int = 0) && decide (textV v.text.data.toList = 0) && decide (v.words.length = 0)
  else if v.kind = 6 then decide (v.int = 0) && decide (v.text.data.toList = []) && wordsRight v.words
  else false
def unitFor (k n : Int) : Int × List UInt8 :=
  if k = 3 then (if 0 < n ∧ n % 1073741824 = 0 then (1073741824, [103]) else if 0 < n ∧ n % 1048576 = 0 then (1048576, [109]) else if 0 < n ∧ n % 1024 = 0 then (1024, [107]) else (1, []))
  else (if 0 < n ∧ n % 86400 = 0 then (86400, [100]) else if 0 < n ∧ n % 3600 = 0 then (3600, [104]) else if 0 < n ∧ n % 60 = 0 then (60, [109]) else (1, [115]))
def printV (v : Val) : List UInt8 :=
  if v.kind = 1 then (if v.int = 1 then [116, 114, 117, 101] else [102, 97, 108, 115, 101])
  else if v.kind = 2 then Lib.itoa v.int
  else if v.kind = 3 ∨ v.kind = 4 then Lib.itoa (v.int / (unitFor v.kind v.int).1) ++ (unitFor v.kind v.int).2
  else if v.kind = 5 then v.text.data.toList
  else joinW v.words
def printR (v : Val) : List UInt8 × Int := if rightV v then (printV v, 0) else ([], 1)
def withinV (v : Val) (a b : Int) : Bool :=
  rightV v && (if v.kind = 2 ∨ v.kind = 3 ∨ v.kind = 4 then decide (a ≤ v.int ∧ v.int ≤ b) else if v.kind = 6 then decide (a ≤ v.words.length ∧ (v.words.length : Int) ≤ b) else true)
end Go.Proofs.YtopghlnoklajkaaGreatDoor

namespace Go.Proofs.YtopghlnoklajkaaGreatDoor

theorem indexD_cons (d c : UInt8) (l : List UInt8) : Lib.index (c :: l) [d] = if c = d then 0 else if Lib.index l [d] = -1 then -1 else Lib.index l [d] + 1 := by
  by_cases h : c = d
  · subst h; rw [Lib.index]; simp [List.isPrefixOf]
  · have hp : ([d] : List UInt8).isPrefixOf (c :: l) = false := by simp [List.isPrefixOf, Ne.symm h]
    rw [Lib.index, hp, if_neg h]; simp
def upTo (d : UInt8) (l : List UInt8) : List UInt8 := l.takeWhile (· != d)
def after (d : UInt8) (l : List UInt8) : List UInt8 := (l.dropWhile (· != d)).drop 1
theorem upTo_cons {d c : UInt8} {r : List UInt8} (h : c ≠ d) : upTo d (c :: r) = c :: upTo d r := by
  unfold upTo
  rw [List.takeWhile_cons, if_pos (by simpa using h)]
theorem upTo_sep (d : UInt8) (r : List UInt8) : upTo d (d :: r) = [] := by unfold upTo; simp
theorem after_cons {d c : UInt8} {r : List UInt8} (h : c ≠ d) : after d (c :: r) = after d r := by
  unfold after
  rw [List.dropWhile_cons, if_pos (by simpa using h)]
theorem after_sep (d : UInt8) (r : List UInt8) : after d (d :: r) = r := by unfold after; simp
theorem has_cons {d c : UInt8} {r : List UInt8} (h : c ≠ d) : (c :: r).contains d = r.contains d := by
  have : (d == c) = false := by simpa using fun e => h e.symm
  rw [List.contains_cons, this, Bool.false_or]
theorem index_is (d : UInt8) (l : List UInt8) : Lib.index l [d] = if l.contains d then ((upTo d l).length : Int) else -1 := by
  induction l with
  | nil => rfl
  | cons c r ih =>
    rw [indexD_cons]
    by_cases h : c = d
    · subst h
      rw [if_pos rfl, upTo_sep, if_pos (by simp)]; rfl
    · rw [if_neg h, has_cons h, upTo_cons h, ih]
      by_cases hc : r.contains d = true
      · rw [if_pos hc, if_pos hc, if_neg (by omega), List.length_cons]; omega
      · rw [if_neg hc, if_neg hc, if_pos rfl]
theorem whole_is (d : UInt8) (l : List UInt8) (h : l.contains d = true) : l = upTo d l ++ d :: after d l := by
  induction l with
  | nil => simp at h
  | cons c r ih =>
    by_cases e : c = d
    · subst e; rw [upTo_sep, after_sep]; rfl
    · rw [has_cons e] at h
      rw [upTo_cons e, after_cons e, List.cons_append, ← ih h]
theorem upTo_none {d : UInt8} {l : List UInt8} (h : l.contains d = false) : upTo d l = l := by
  induction l with
  | nil => rfl
  | cons c r ih =>
    have e : c ≠ d := fun e => by subst e; simp at h
    rw [has_cons e] at h
    rw [upTo_cons e, ih h]
theorem cut_is (d : UInt8) (l : List UInt8) : Lib.cut l [d] = if l.contains d then (upTo d l, after d l, true) else (l, [], false) := by
  unfold Lib.cut
  rw [index_is]
  by_cases h : l.contains d = true
  · rw [if_pos h, if_pos h, if_pos (by omega)]
    have hw := whole_is d l h
    have e : (((upTo d l).length : Int)).toNat = (upTo d l).length := by omega
    rw [e]
    generalize upTo d l = a at *
    generalize after d l = b at *
    subst hw
    simp [List.drop_append]
  · rw [if_neg h, if_neg h, if_neg (by omega)]
theorem contains_no {d : UInt8} {l : List UInt8} (h : ∀ c ∈ l, c ≠ d) : l.contains d = false := by
  cases hc : l.contains d with
  | false => rfl
  | true => exact absurd rfl (h d (List.contains_iff_mem.1 hc))
theorem upTo_at {d : UInt8} {a b : List UInt8} (h : a.contains d = false) : upTo d (a ++ d :: b) = a ∧ after d (a ++ d :: b) = b ∧ (a ++ d :: b).contains d = true := by
  induction a with
  | nil => exact ⟨upTo_sep _ _, after_sep _ _, by simp⟩
  | cons c r ih =>
    have e : c ≠ d := fun e => by subst e; simp at h
    rw [has_cons e] at h
    obtain ⟨h1, h2, h3⟩ := ih h
    exact ⟨by rw [List.cons_append, upTo_cons e, h1], by rw [List.cons_append, after_cons e, h2], by rw [List.cons_append, has_cons e, h3]⟩
theorem upTo_hit {d : UInt8} {l : List UInt8} {k : Nat} (hk : k < l.length) (h : (l.take k).contains d = false) (he : l[k] = d) : upTo d l = l.take k ∧ after d l = l.drop (k + 1) ∧ l.contains d = true := by
  have hw : l = l.take k ++ d :: l.drop (k + 1) := by
    conv => lhs; rw [← List.take_append_drop k l, List.drop_eq_getElem_cons hk, he]
  obtain ⟨h1, h2, h3⟩ := upTo_at (b := l.drop (k + 1)) h
  rw [← hw] at h1 h2 h3
  exact ⟨h1, h2, h3⟩
theorem no_next {d : UInt8} {l : List UInt8} {k : Nat} (hk : k < l.length) (h : (l.take k).contains d = false) (he : l[k] ≠ d) : (l.take (k + 1)).contains d = false := by
  rw [List.take_succ_eq_append_getElem hk]
  refine contains_no fun c hc => ?_
  rcases List.mem_append.1 hc with hc | hc
  · intro e; subst e; rw [List.contains_iff_mem.2 hc] at h; cases h
  · rw [List.mem_singleton.1 hc]; exact he
theorem list_at (s : ByteArray) (k : Nat) (h : k < s.size) : s.data.toList[k]'(by simpa using h) = s[k] := by simp [ByteArray.getElem_eq_getElem_data]
end Go.Proofs.YtopghlnoklajkaaGreatDoor

namespace Go.Proofs.YtopghlnoklajkaaGreatDoor

/-- Bytes that stand for themselves, or the name of a setting. -/
abbrev PcB := List UInt8 × Bool
def scanP : Nat → List UInt8 → List UInt8 → List PcB → Option (List PcB)
  | 0, _, b, l => some (l ++ [(b, false)])
  | _ + 1, [], b, l => some (l ++ [(b, false)])
  | f + 1, c :: r, b, l =>
    if c = 36 then
      match r with
      | [] => none
      | d :: r' =>
        if d = 36 then scanP f r' (b ++ [36]) l
        else if d = 123 then
          if r'.contains 125 = true ∧ nameB (upTo 125 r') = true then scanP f (after 125 r') [] (l ++ [(b, false), (upTo 125 r', true)]) else none
        else none
    else scanP f r (b ++ [c]) l
theorem after_len (d : UInt8) (l : List UInt8) : (after d l).length ≤ l.length := by
  unfold after
  rw [List.length_drop]
  have := (List.dropWhile_sublist (· != d) (l := l)).length_le
  omega
theorem scanP_more : ∀ (f : Nat) (r b : List UInt8) (l : List PcB), r.length ≤ f → ∀ g, f ≤ g → scanP g r b l = scanP f r b l := by
  intro f
  induction f with
  | zero =>
    intro r b l hr g hg
    have : r = [] := List.eq_nil_of_length_eq_zero (by omega)
    subst this
    cases g <;> rfl
  | succ f ih =>
    intro r b l hr g hg
    obtain ⟨g, rfl⟩ : ∃ g', g = g' + 1 := ⟨g - 1, by omega⟩
    cases r with
    | nil => rfl
    | cons c r =>
      rw [List.length_cons] at hr
      unfold scanP
      by_cases hc : c = 36
      · rw [if_pos hc, if_pos hc]
        cases r with
        | nil => rfl
        | cons d r' =>
          rw [List.length_cons] at hr
          simp only
          split
          · exact ih _ _ _ (by omega) _ (by omega)
          · split
            · split
              · exact ih _ _ _ (by have := after_len 125 r'; omega) _ (by omega)
              · rfl
            · rfl
      · rw [if_neg hc, if_neg hc]
        exact ih _ _ _ (by omega) _ (by omega)
/-- What is left of a text, behind what is read. -/
def scanB (r b : List UInt8) (l : List PcB) : Option (List PcB) := scanP r.length r b l
theorem scanB_nil (b : List UInt8) (l : List PcB) : scanB [] b l = some (l ++ [(b, false)]) := rfl
theorem scanB_byte {c : UInt8} (h : c ≠ 36) (r b : List UInt8) (l : List PcB) : scanB (c :: r) b l = scanB r (b ++ [c]) l := by
  unfold scanB
  rw [List.length_cons]
  conv => lhs; unfold scanP
  rw [if_neg h]
theorem scanB_end (b : List UInt8) (l : List PcB) : scanB [36] b l = none := rfl
theorem scanB_two (r b : List UInt8) (l : List PcB) : scanB (36 :: 36 :: r) b l = scanB r (b ++ [36]) l := by
  unfold scanB
  rw [List.length_cons, List.length_cons]
  conv => lhs; unfold scanP
  rw [if_pos rfl]
  simp only
  first | rw [if_pos trivial] | rw [if_pos rfl]
  exact scanP_more _ _ _ _ (Nat.le_refl _) _ (by omega)
theorem scanB_bad {d : UInt8} (h1 : d ≠ 36) (h2 : d ≠ 123) (r b : List UInt8) (l : List PcB) : scanB (36 :: d :: r) b l = none := by
  unfold scanB
  rw [List.length_cons]
  conv => lhs; unfold scanP
  rw [if_pos rfl]
  simp only
  rw [if_neg h1, if_neg h2]
theorem scanB_open {r : List UInt8} (h : r.contains 125 = false) (b : List UInt8) (l : List PcB) : scanB (36 :: 123 :: r) b l = none := by
  unfold scanB
  rw [List.length_cons]
  conv => lhs; unfold scanP
  rw [if_pos rfl]
  simp only
  first | rw [if_neg (by decide), if_pos trivial] | rw [if_neg (by decide), if_pos rfl] | rw [if_neg id, if_pos trivial]
  rw [if_neg (by rw [h]; simp)]
theorem scanB_no {r : List UInt8} (h : nameB (upTo 125 r) = false) (b : List UInt8) (l : List PcB) : scanB (36 :: 123 :: r) b l = none := by
  unfold scanB
  rw [List.length_cons]
  conv => lhs; unfold scanP
  rw [if_pos rfl]
  simp only
  first | rw [if_neg (by decide), if_pos trivial] | rw [if_neg (by decide), if_pos rfl] | rw [if_neg id, if_pos trivial]
  rw [if_neg (by rw [h]; simp)]
theorem scanB_ref {r : List UInt8} (h : r.contains 125 = true) (h2 : nameB (upTo 125 r) = true) (b : List UInt8) (l : List PcB) : scanB (36 :: 123 :: r) b l = scanB (after 125 r) [] (l ++ [(b, false), (upTo 125 r, true)]) := by
  unfold scanB
  rw [List.length_cons, List.length_cons]
  conv => lhs; unfold scanP
  rw [if_pos rfl]
  simp only
  first | rw [if_neg (by decide), if_pos trivial] | rw [if_neg (by decide), if_pos rfl] | rw [if_neg id, if_pos trivial]
  rw [if_pos ⟨h, h2⟩]
  exact scanP_more _ _ _ _ (Nat.le_refl _) _ (by have := after_len 125 r; omega)
/-- The pieces of a text; none: it is not well formed. -/
def piecesB (s : List UInt8) : Option (List PcB) := scanB s [] []
/-- One more name, if it is not there. -/
def addN (out : List (List UInt8)) (n : List UInt8) : List (List UInt8) := if out.contains n = true then out else out ++ [n]
def nameStep (out : List (List UInt8)) (p : PcB) : List (List UInt8) := if p.2 = true then addN out p.1 else out
/-- The names that pieces speak of, each once, as they first stand. -/
def namesL (l : List PcB) : List (List UInt8) := l.foldl nameStep []
/-- What chapter 10's Names answers. -/
def namesB (s : List UInt8) : List (List UInt8) × Int :=
  match piecesB s with
  | none => ([], 100)
  | some l => (namesL l, 0)
theorem addN_len (out : List (List UInt8)) (n : List UInt8) : (addN out n).length ≤ out.length + 1 := by
  unfold addN
  split
  · omega
  · simp
theorem namesL_len (l : List PcB) : (namesL l).length ≤ l.length := by
  suffices h : ∀ out, (l.foldl nameStep out).length ≤ out.length + l.length by simpa [namesL] using h []
  induction l with
  | nil => intro out; simp
  | cons p r ih =>
    intro out
    rw [List.foldl_cons, List.length_cons]
    refine Nat.le_trans (ih _) ?_
    unfold nameStep
    split
    · have := addN_len out p.1; omega
    · omega
/-- The bound of how many pieces there are. -/
theorem scanP_len : ∀ (f : Nat) (r b : List UInt8) (l out : List PcB), scanP f r b l = some out → out.length ≤ l.length + r.length + 1 := by
  intro f
  induction f with
  | zero => intro r b l out h; have := Option.some.inj h; rw [← this]; simp
  | succ f ih =>
    intro r b l out h
    cases r with
    | nil => have := Option.some.inj h; rw [← this]; simp
    | cons c r =>
      unfold scanP at h
      rw [List.length_cons]
      split at h
      · cases r with
        | nil => cases h
        | cons d r' =>
          rw [List.length_cons]
          simp only at h
          split at h
          · have := ih _ _ _ _ h; omega
          · split at h
            · split at h
              · have h1 := ih _ _ _ _ h
                rw [List.length_append, List.length_cons, List.length_singleton] at h1
                have h2 : (after 125 r').length + 1 ≤ r'.length := by
                  rename_i hx
                  have hw := congrArg List.length (whole_is 125 r' hx.1)
                  rw [List.length_append, List.length_cons] at hw
                  omega
                omega
              · cases h
            · cases h
      · have := ih _ _ _ _ h; omega
theorem pieces_len {s : List UInt8} {l : List PcB} (h : piecesB s = some l) : l.length ≤ s.length + 1 := by
  have := scanP_len _ _ _ _ _ h
  simpa using this
end Go.Proofs.YtopghlnoklajkaaGreatDoor
