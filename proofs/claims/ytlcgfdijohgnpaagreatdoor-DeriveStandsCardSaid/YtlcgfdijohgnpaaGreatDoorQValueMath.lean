/-
  ValueWord, ValueMath.
-/
import Derived.Test.YtlcgfdijohgnpaaGreatDoorQGlyphNames2
import Derived.Lib.ItoaNum
import Derived.Lib.SplitLaws
import Derived.Lib.Join

namespace Go.Proofs.YtlcgfdijohgnpaaGreatDoor

def isD (c : UInt8) : Bool := decide (48 ≤ c.toNat ∧ c.toNat ≤ 57)
def decS (n : Nat) (c : UInt8) : Nat := n * 10 + (c.toNat - 48)
def decAcc (n : Nat) (l : List UInt8) : Nat := l.foldl decS n
theorem decAcc_nil (n : Nat) : decAcc n [] = n := by unfold decAcc; rw [List.foldl_nil]
theorem decAcc_cons (n : Nat) (c : UInt8) (r : List UInt8) : decAcc n (c :: r) = decAcc (decS n c) r := by unfold decAcc; rw [List.foldl_cons]
theorem decS_eq (n : Nat) (c : UInt8) : decS n c = n * 10 + (c.toNat - 48) := by simp only [decS]
def dec (l : List UInt8) : Nat := decAcc 0 l
def bigN : Nat := 4611686018427387905
def capN (n : Nat) : Nat := min n bigN
def numOk (l : List UInt8) : Bool := l.all isD && (match l with | [] => false | c :: r => c != 48 || r.isEmpty)

theorem decAcc_ge (n : Nat) (l : List UInt8) : n ≤ decAcc n l := by
 induction l generalizing n with
 | nil => rw [decAcc_nil]; exact Nat.le_refl _
 | cons c r ih =>
  rw [decAcc_cons]
  have := ih (decS n c)
  rw [decS_eq] at this ⊢
  omega
theorem decAcc_append (n : Nat) (a b : List UInt8) : decAcc n (a ++ b) = decAcc (decAcc n a) b := by
 unfold decAcc; rw [List.foldl_append]
theorem cap_big {n : Nat} (h : 4611686018427387905 ≤ n) : capN n = 4611686018427387905 := by unfold capN bigN; omega
theorem cap_small {n : Nat} (h : n ≤ 4611686018427387904) : capN n = n := by unfold capN bigN; omega
theorem cap_le (n : Nat) : capN n ≤ 4611686018427387905 := by unfold capN bigN; omega

/-! Units -/
def unitV (k : Int) (s : List UInt8) : Int :=
 if k = 3 then (if s = [] then 1 else if s = [107] then 1024 else if s = [109] then 1048576 else if s = [103] then 1073741824 else 0)
 else if k = 4 then (if s = [115] then 1 else if s = [109] then 60 else if s = [104] then 3600 else if s = [100] then 86400 else 0)
 else 0
def mostV (k : Int) : Int := if k = 3 then 1125899906842624 else if k = 4 then 1099511627776 else 4611686018427387904
theorem unit_bd (k : Int) (s : List UInt8) : 0 ≤ unitV k s ∧ unitV k s ≤ 1073741824 := by
 unfold unitV; repeat' split
 all_goals omega

/-! What is read -/
structure Val where
 kind : Int
 int : Int
 text : ByteArray
 words : List ByteArray
def zeroV : Val := ⟨0, 0, ⟨#[]⟩, []⟩
def negOf : List UInt8 → Bool
 | [] => false
 | c :: _ => c == 45
def unsg (s : List UInt8) : List UInt8 := if negOf s then s.drop 1 else s
def wholeV (s : List UInt8) : Int × Int :=
 if numOk (unsg s) = false ∨ (negOf s = true ∧ dec (unsg s) = 0) then (0, 40)
 else if 4611686018427387904 < dec (unsg s) then (0, 41)
 else ((if negOf s then -(dec (unsg s) : Int) else (dec (unsg s) : Int)), 0)
def spanU (k : Int) (s : List UInt8) : Int := if k = 4 ∧ s = [48] then 1 else unitV k (s.dropWhile isD)
def unitedV (k : Int) (s : List UInt8) : Int × Int :=
 if numOk (s.takeWhile isD) = false ∨ spanU k s = 0 then (0, 40)
 else if mostV k / spanU k s < dec (s.takeWhile isD) then (0, 41)
 else ((dec (s.takeWhile isD) : Int) * spanU k s, 0)
def allText (s : List UInt8) : Bool := s.all fun c => printB c.toNat
def textV (s : List UInt8) : Int := if allText s = false then 40 else if 200 < s.length then 42 else 0
def pieces : List UInt8 → List (List UInt8)
 | [] => [[]]
 | c :: r => if c = 44 then [] :: pieces r else match pieces r with
  | [] => [[c]]
  | p :: ps => (c :: p) :: ps
def allWords (l : List (List UInt8)) : Bool := l.all wordB
def wordsV (s : List UInt8) : Int :=
 if s = [] then 0 else if allWords (pieces s) = false then 40 else if 200 < s.length ∨ 16 < (pieces s).length then 42 else 0
def boolV (s : List UInt8) : Int × Int :=
 if s = [116, 114, 117, 101] ∨ s = [121, 101, 115] ∨ s = [111, 110] then (1, 0)
 else if s = [102, 97, 108, 115, 101] ∨ s = [110, 111] ∨ s = [111, 102, 102] then (0, 0) else (0, 40)
def mkB (l : List UInt8) : ByteArray := ⟨l.toArray⟩
theorem mkB_data (l : List UInt8) : (mkB l).data.toList = l := rfl
theorem mkB_self (s : ByteArray) : mkB s.data.toList = s := by unfold mkB; simp
def intOk (k : Int) (r : Int × Int) : Val × Int := if r.2 = 0 then (⟨k, r.1, ⟨#[]⟩, []⟩, 0) else (zeroV, r.2)
def wordsOf (s : List UInt8) : List ByteArray := if s = [] then [] else (pieces s).map mkB
def parseV (k : Int) (s : ByteArray) : Val × Int :=
 if k = 1 then intOk 1 (boolV s.data.toList)
 else if k = 2 then intOk 2 (wholeV s.data.toList)
 else if k = 3 ∨ k = 4 then intOk k (unitedV k s.data.toList)
 else if k = 5 then (if textV s.data.toList = 0 then (⟨5, 0, s, []⟩, 0) else (zeroV, textV s.data.toList))
 else if k = 6 then (if wordsV s.data.toList = 0 then (⟨6, 0, ⟨#[]⟩, wordsOf s.data.toList⟩, 0) else (zeroV, wordsV s.data.toList))
 else (zeroV, 1)

/-! What may be, and what is printed -/
def wl (v : List ByteArray) : List (List UInt8) := v.map (·.data.toList)
def joinW (v : List ByteArray) : List UInt8 := Lib.join (wl v) [44]
def wordsRight (v : List ByteArray) : Bool := decide (v.length ≤ 16) && allWords (wl v) && decide ((joinW v).length ≤ 200)
def rightV (v : Val) : Bool :=
 if v.kind = 1 then decide (0 ≤ v.int ∧ v.int ≤ 1) && decide (v.text.data.toList = []) && decide (v.words.length = 0)
 else if v.kind = 2 then decide (-4611686018427387904 ≤ v.int ∧ v.int ≤ 4611686018427387904) && decide (v.text.data.toList = []) && decide (v.words.length = 0)
 else if v.kind = 3 ∨ v.kind = 4 then decide (0 ≤ v.int ∧ v.int ≤ mostV v.kind) && decide (v.text.data.toList = []) && decide (v.words.length = 0)
 else if v.kind = 5 then decide (v.int = 0) && decide (textV v.text.data.toList = 0) && decide (v.words.length = 0)
 else if v.kind = 6 then decide (v.int = 0) && decide (v.text.data.toList = []) && wordsRight v.words
 else false
def unitFor (k n : Int) : Int × List UInt8 :=
 if k = 3 then (if 0 < n ∧ n % 1073741824 = 0 then (1073741824, [103]) else if 0 < n ∧ n % 1048576 = 0 then (1048576, [109]) else if 0 < n ∧ n % 1024 = 0 then (1024, [107]) else (1, []))
 else (if 0 < n ∧ n % 86400 = 0 then (86400, [100]) else if 0 < n ∧ n % 3600 = 0 then (3600, [104]) else if 0 < n ∧ n % 60 = 0 then (60, [109]) else (1, [115]))
def printV (v : Val) : List UInt8 :=
 if v.kind = 1 then (if v.int = 1 then [116, 114, 117, 101] else [102, 97, 108, 115, 101])
 else if v.kind = 2 then Lib.itoa v.int
 else if v.kind = 3 ∨ v.kind = 4 then Lib.itoa (v.int / (unitFor v.kind v.int).1) ++ (unitFor v.kind v.int).2
 else if v.kind = 5 then v.text.data.toList
 else joinW v.words
def printR (v : Val) : List UInt8 × Int := if rightV v then (printV v, 0) else ([], 1)
def withinV (v : Val) (a b : Int) : Bool :=
 rightV v && (if v.kind = 2 ∨ v.kind = 3 ∨ v.kind = 4 then decide (a ≤ v.int ∧ v.int ≤ b) else if v.kind = 6 then decide (a ≤ v.words.length ∧ (v.words.length : Int) ≤ b) else true)
end Go.Proofs.YtlcgfdijohgnpaaGreatDoor
