/-
  The walks of 'glyph.isPrinted', 'inWord', 'IsWord', 'IsName', and of the document's own 'IsWord', 'part', 'IsName'.
-/
import Derived.Test.YtbpbiakdigjcnaaDoorGlyphClass
namespace Go.Proofs.YtbpbiakdigjcnaaDoor
open Go.ChangeShapes Go.WideShapes Go.ChangeAt Go.RowKit

def printB (b : Int) : Bool := decide (32 ≤ b ∧ b ≤ 126)
def inWordB (b : Int) : Bool := decide (cls b = 1 ∨ cls b = 3 ∨ b = 45 ∨ b = 95 ∨ b = 46)
def allWord (l : List UInt8) : Bool := l.all fun c => inWordB c.toNat
def wordB (l : List UInt8) : Bool := decide (1 ≤ l.length ∧ l.length ≤ 32) && allWord l
/-- The machine of names: how many parts so far; does a part begin here? -/
def nameGo (p : Nat) (bg : Bool) : List UInt8 → Bool
  | [] => !bg && decide (p ≤ 3)
  | c :: r => if cls c.toNat = 1 then nameGo p false r else if bg = true then false else if (c.toNat : Int) = 46 then nameGo (p + 1) true r
    else if cls c.toNat = 3 then nameGo p bg r else false
def nameB (l : List UInt8) : Bool := decide (l.length ≤ 32) && nameGo 1 true l

theorem drop_byte (s : ByteArray) (k : Nat) (h : k < s.size) : s.data.toList.drop k = s[k] :: s.data.toList.drop (k + 1) := by
  rw [List.drop_eq_getElem_cons (by simpa using h)]; rfl
theorem byte_le (s : ByteArray) (k : Nat) (h : k < s.size) : (s[k].toNat : Int) ≤ 255 := by
  have := s[k].toNat_lt; omega

theorem printed_any (b : Int) (w : World) :
    Calls Tryd.prog 60 #[.int .u8 b] w fun e w' => e = .returned (.bool (printB b)) ∧ w = w' := by
  by_cases h0 : 32 ≤ b
  · by_cases h1 : b ≤ 126
    · have hp : printB b = true := by simp [printB, h0, h1]
      rw [hp]; clear hp
      go_enter Tryd.func60, Tryd.ntmps60
      go_wp2
      go_ret
      exact ⟨rfl, rfl⟩
    · have hp : printB b = false := by simp [printB, h1]
      have h1' : decide (b ≤ 126) = false := by simpa using h1
      rw [hp]; clear hp
      go_enter Tryd.func60, Tryd.ntmps60
      go_wp2
      go_ret
      exact ⟨rfl, rfl⟩
  · have hp : printB b = false := by simp [printB, h0]
    have h1' : decide (32 ≤ b) = false := by simpa using h0
    rw [hp]; clear hp
    go_enter Tryd.func60, Tryd.ntmps60
    go_wp2
    go_ret
    exact ⟨rfl, rfl⟩

theorem wordB_long {l : List UInt8} (h : l.length = 0 ∨ 32 < l.length) : wordB l = false := by
  simp [wordB]; intros; omega
theorem allWord_cons (c : UInt8) (r : List UInt8) : allWord (c :: r) = (inWordB c.toNat && allWord r) := by simp [allWord]

end Go.Proofs.YtbpbiakdigjcnaaDoor
