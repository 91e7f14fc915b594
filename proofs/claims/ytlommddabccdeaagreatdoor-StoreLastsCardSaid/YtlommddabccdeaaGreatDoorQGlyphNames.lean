/-
  GlyphClass, GlyphNames.
-/
import Derived.Test.YtlommddabccdeaaGreatDoorQGlyphSpec
namespace Go.Proofs.YtlommddabccdeaaGreatDoor
open Go.ChangeShapes Go.WideShapes Go.ChangeAt Go.RowKit

set_option maxHeartbeats 400000 in
theorem class_any (b : Int) (w : World) (hT : Tab w) :
  Calls Tryz.prog 129 #[.int .i64 b] w fun e w' => e = .returned (.int .i64 (cls b)) ∧ w = w' := by
 by_cases h0 : b < 0
 ·have hz := cls_out (Or.inl h0)
  rw [hz]; clear hz hT
  go_enter Tryz.func129, Tryz.ntmps129
  go_wp2
  go_ret
  exact ⟨rfl, rfl⟩
 by_cases h1 : 127 < b
 ·have hz := cls_out (Or.inr h1)
  rw [hz]; clear hz hT
  go_enter Tryz.func129, Tryz.ntmps129
  go_wp2
  go_ret
  exact ⟨rfl, rfl⟩
 obtain ⟨n, rfl⟩ := Int.eq_ofNat_of_zero_le (Int.not_lt.1 h0)
 obtain ⟨hc0, hc1⟩ := cls_in n
 by_cases h2 : n < 32
 ·have hc := hT.1 n h2
  clear hT
  go_enter Tryz.func129, Tryz.ntmps129
  go_wp2
  go_ret
  exact ⟨rfl, rfl⟩
 by_cases h3 : n < 64
 ·have hc := hT.2.1 (n - 32) (by omega)
  rw [show (32 + ((n - 32 : Nat) : Int)) = (n : Int) from by omega] at hc
  clear hT
  go_enter Tryz.func129, Tryz.ntmps129
  go_wp2
  go_ret
  exact ⟨rfl, rfl⟩
 by_cases h4 : n < 96
 ·have hc := hT.2.2.1 (n - 64) (by omega)
  rw [show (64 + ((n - 64 : Nat) : Int)) = (n : Int) from by omega] at hc
  clear hT
  go_enter Tryz.func129, Tryz.ntmps129
  go_wp2
  go_ret
  exact ⟨rfl, rfl⟩
 ·have hc := hT.2.2.2 (n - 96) (by omega)
  rw [show (96 + ((n - 96 : Nat) : Int)) = (n : Int) from by omega] at hc
  clear hT
  go_enter Tryz.func129, Tryz.ntmps129
  go_wp2
  go_ret
  exact ⟨rfl, rfl⟩

end Go.Proofs.YtlommddabccdeaaGreatDoor

namespace Go.Proofs.YtlommddabccdeaaGreatDoor
open Go.ChangeShapes Go.WideShapes Go.ChangeAt Go.RowKit

def inWordB (b : Int) : Bool := decide (cls b = 1 ∨ cls b = 3 ∨ b = 45 ∨ b = 95 ∨ b = 46)
def allWord (l : List UInt8) : Bool := l.all fun c => inWordB c.toNat
def wordB (l : List UInt8) : Bool := decide (1 ≤ l.length ∧ l.length ≤ 32) && allWord l
theorem drop_byte (s : ByteArray) (k : Nat) (h : k < s.size) : s.data.toList.drop k = s[k] :: s.data.toList.drop (k + 1) := by
 rw [List.drop_eq_getElem_cons (by simpa using h)]; rfl
theorem byte_le (s : ByteArray) (k : Nat) (h : k < s.size) : (s[k].toNat : Int) ≤ 255 := by
 have := s[k].toNat_lt; omega

set_option maxHeartbeats 400000 in
theorem inWord_any (b : Int) (w : World) (hT : Tab w) (h0 : 0 ≤ b) (h1 : b ≤ 255) :
  Calls Tryz.prog 102 #[.int .u8 b] w fun e w' => e = .returned (.bool (inWordB b)) ∧ w = w' := by
 by_cases c1 : cls b = 1
 ·have hp : inWordB b = true := by simp [inWordB, c1]
  have d1 : (cls b == 1) = true := beq_iff_eq.2 c1
  rw [hp]; clear hp c1
  go_enter Tryz.func102, Tryz.ntmps102
  go_wp2_with (go_at_call 129; refine (class_any _ _ hT).mono ?_; rintro e w' ⟨rfl, rfl⟩)
  go_ret
  exact ⟨rfl, rfl⟩
 have d1 : (cls b == 1) = false := beq_eq_false_iff_ne.2 c1
 by_cases c2 : cls b = 3
 ·have hp : inWordB b = true := by simp [inWordB, c2]
  have d2 : (cls b == 3) = true := beq_iff_eq.2 c2
  rw [hp]; clear hp c1 c2
  go_enter Tryz.func102, Tryz.ntmps102
  go_wp2_with (go_at_call 129; refine (class_any _ _ hT).mono ?_; rintro e w' ⟨rfl, rfl⟩)
  go_ret
  exact ⟨rfl, rfl⟩
 have d2 : (cls b == 3) = false := beq_eq_false_iff_ne.2 c2
 have hp : inWordB b = (b == 45 || b == 95 || b == 46) := by rw [Bool.eq_iff_iff]; simp [inWordB, c1, c2, or_assoc]
 rw [hp]; clear hp c1 c2
 by_cases e1 : b = 45
 ·subst e1
  go_enter Tryz.func102, Tryz.ntmps102
  go_wp2_with (go_at_call 129; refine (class_any _ _ hT).mono ?_; rintro e w' ⟨rfl, rfl⟩)
  go_ret
  exact ⟨rfl, rfl⟩
 by_cases e2 : b = 95
 ·subst e2
  go_enter Tryz.func102, Tryz.ntmps102
  go_wp2_with (go_at_call 129; refine (class_any _ _ hT).mono ?_; rintro e w' ⟨rfl, rfl⟩)
  go_ret
  exact ⟨rfl, rfl⟩
 have f1 : (b == 45) = false := beq_eq_false_iff_ne.2 e1
 have f2 : (b == 95) = false := beq_eq_false_iff_ne.2 e2
 rw [f1, f2]
 by_cases e3 : b = 46
 ·subst e3
  go_enter Tryz.func102, Tryz.ntmps102
  go_wp2_with (go_at_call 129; refine (class_any _ _ hT).mono ?_; rintro e w' ⟨rfl, rfl⟩)
  go_ret
  exact ⟨rfl, rfl⟩
 have f3 : (b == 46) = false := beq_eq_false_iff_ne.2 e3
 rw [f3]
 clear e1 e2 e3
 go_enter Tryz.func102, Tryz.ntmps102
 go_wp2_with (go_at_call 129; refine (class_any _ _ hT).mono ?_; rintro e w' ⟨rfl, rfl⟩)
 go_ret
 exact ⟨rfl, rfl⟩

theorem wordB_long {l : List UInt8} (h : l.length = 0 ∨ 32 < l.length) : wordB l = false := by
 simp [wordB]; intros; omega
theorem allWord_cons (c : UInt8) (r : List UInt8) : allWord (c :: r) = (inWordB c.toNat && allWord r) := by simp [allWord]

set_option maxHeartbeats 400000 in
theorem isWord_any (s : ByteArray) (w : World) (hT : Tab w) (hs : s.size ≤ maxLen) :
  Calls Tryz.prog 67 #[.string s] w fun e w' => e = .returned (.bool (wordB s.data.toList)) ∧ w = w' := by
 unfold maxLen at hs
 have hl : s.data.toList.length = s.size := by simp
 by_cases h0 : s.size = 0
 ·rw [wordB_long (Or.inl (by omega))]
  have g0 : ((s.size : Int) == 0) = true := beq_iff_eq.2 (by omega)
  clear hl h0
  go_enter Tryz.func67, Tryz.ntmps67
  go_wp2
  go_ret
  exact ⟨rfl, rfl⟩
 have g0 : ((s.size : Int) == 0) = false := beq_eq_false_iff_ne.2 (by omega)
 by_cases h1 : 32 < s.size
 ·rw [wordB_long (Or.inr (by omega))]
  clear hl h0
  go_enter Tryz.func67, Tryz.ntmps67
  go_wp2
  go_ret
  exact ⟨rfl, rfl⟩
 have hw : wordB s.data.toList = allWord s.data.toList := by
  have : decide (1 ≤ s.data.toList.length ∧ s.data.toList.length ≤ 32) = true := by simp only [hl]; simp; omega
  rw [wordB, this]; rfl
 rw [hw]
 have h2 : decide (32 < (s.size : Int)) = false := by simp; omega
 clear hl h0 hw
 go_enter Tryz.func67, Tryz.ntmps67
 go_wp2
 go_loop [3] (fun i => ∃ k : Nat, k ≤ s.size ∧ i = .int .i64 k ∧ Hid (allWord s.data.toList = allWord (s.data.toList.drop k))) (fun i => s.size - (intOf i).toNat)
 case atStart => exact ⟨0, by omega, rfl, Lib.hid rfl⟩
 case round =>
  obtain ⟨k, hk, rfl, HR⟩ := hrel
  by_cases hlt : k < s.size
  ·have hb := byte_le s k hlt
   have HD := Lib.hid (drop_byte s k hlt)
   by_cases hc : inWordB s[k].toNat = true
   ·go_wp2_with (go_at_call 102; refine (inWord_any _ _ hT (by omega) (by omega)).mono ?_; rintro e w' ⟨rfl, rfl⟩)
    go_round
    case rel => exact ⟨k + 1, by omega, by go_num, Lib.hid (by rw [HR.out, HD.out, allWord_cons, hc]; rfl)⟩
    case measure => simp [intOf]; omega
   ·have hc' : inWordB s[k].toNat = false := by simpa using hc
    clear hc
    go_wp2_with (go_at_call 102; refine (inWord_any _ _ hT (by omega) (by omega)).mono ?_; rintro e w' ⟨rfl, rfl⟩)
    go_ret
    exact ⟨by rw [HR.out, HD.out, allWord_cons, hc']; rfl, rfl⟩
  ·go_wp2
   go_ret
   exact ⟨by rw [HR.out, List.drop_eq_nil_of_le (by simp; omega)]; rfl, rfl⟩
end Go.Proofs.YtlommddabccdeaaGreatDoor
