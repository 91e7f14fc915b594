/-
  GlyphClass, GlyphNames.
-/
import Derived.Test.YticcdighfojjjaaGreatDoorQGlyphSpec
namespace Go.Proofs.YticcdighfojjjaaGreatDoor
open Go.ChangeShapes Go.WideShapes Go.ChangeAt Go.RowKit

set_option maxHeartbeats 400000 in
theorem class_any (b : Int) (w : World) (hT : Tab w) :
    Calls Tryz.prog 78 #[.int .i64 b] w fun e w' => e = .returned (.int .i64 (cls b)) ∧ w = w' := by
  by_cases h0 : b < 0
  · have hz := cls_out (Or.inl h0)
    rw [hz]; clear hz hT
    go_enter Tryz.func78, Tryz.ntmps78
    go_wp2
    go_ret
    exact ⟨rfl, rfl⟩
  by_cases h1 : 127 < b
  · have hz := cls_out (Or.inr h1)
    rw [hz]; clear hz hT
    go_enter Tryz.func78, Tryz.ntmps78
    go_wp2
    go_ret
    exact ⟨rfl, rfl⟩
  obtain ⟨n, rfl⟩ := Int.eq_ofNat_of_zero_le (Int.not_lt.1 h0)
  obtain ⟨hc0, hc1⟩ := cls_in n
  by_cases h2 : n < 32
  · have hc := hT.1 n h2
    clear hT
    go_enter Tryz.func78, Tryz.ntmps78
    go_wp2
    go_ret
    exact ⟨rfl, rfl⟩
  by_cases h3 : n < 64
  · have hc := hT.2.1 (n - 32) (by omega)
    rw [show (32 + ((n - 32 : Nat) : Int)) = (n : Int) from by omega] at hc
    clear hT
    go_enter Tryz.func78, Tryz.ntmps78
    go_wp2
    go_ret
    exact ⟨rfl, rfl⟩
  by_cases h4 : n < 96
  · have hc := hT.2.2.1 (n - 64) (by omega)
    rw [show (64 + ((n - 64 : Nat) : Int)) = (n : Int) from by omega] at hc
    clear hT
    go_enter Tryz.func78, Tryz.ntmps78
    go_wp2
    go_ret
    exact ⟨rfl, rfl⟩
  · have hc := hT.2.2.2 (n - 96) (by omega)
    rw [show (96 + ((n - 96 : Nat) : Int)) = (n : Int) from by omega] at hc
    clear hT
    go_enter Tryz.func78, Tryz.ntmps78
    go_wp2
    go_ret
    exact ⟨rfl, rfl⟩

set_option maxHeartbeats 400000 in
theorem refClass_any (b : Int) (w : World) :
    Calls Tryz.prog 53 #[.int .i64 b] w fun e w' => e = .returned (.int .i64 (cls b)) ∧ w = w' := by
  by_cases h1 : 97 ≤ b ∧ b ≤ 122
  · have hz : cls b = 1 := by unfold cls; rw [if_pos h1]
    rw [hz]; clear hz
    obtain ⟨h1, h1'⟩ := h1
    go_enter Tryz.func53, Tryz.ntmps53
    go_wp2
    go_ret
    exact ⟨rfl, rfl⟩
  by_cases h2 : 65 ≤ b ∧ b ≤ 90
  · have hz : cls b = 2 := by unfold cls; rw [if_neg h1, if_pos h2]
    rw [hz]; clear hz h1
    obtain ⟨h2, h2'⟩ := h2
    go_enter Tryz.func53, Tryz.ntmps53
    go_wp2
    go_ret
    exact ⟨rfl, rfl⟩
  by_cases h3 : 48 ≤ b ∧ b ≤ 57
  · have hz : cls b = 3 := by unfold cls; rw [if_neg h1, if_neg h2, if_pos h3]
    rw [hz]; clear hz h1 h2
    obtain ⟨h3, h3'⟩ := h3
    go_enter Tryz.func53, Tryz.ntmps53
    go_wp2
    go_ret
    exact ⟨rfl, rfl⟩
  by_cases h4 : b = 32
  · subst h4
    have hz : cls 32 = 4 := by decide
    rw [hz]; clear hz h1 h2 h3
    go_enter Tryz.func53, Tryz.ntmps53
    go_wp2
    go_ret
    exact ⟨rfl, rfl⟩
  by_cases h5 : b = 9
  · subst h5
    have hz : cls 9 = 4 := by decide
    rw [hz]; clear hz h1 h2 h3 h4
    go_enter Tryz.func53, Tryz.ntmps53
    go_wp2
    go_ret
    exact ⟨rfl, rfl⟩
  by_cases h6 : b = 10
  · subst h6
    have hz : cls 10 = 6 := by decide
    rw [hz]; clear hz h1 h2 h3 h4 h5
    go_enter Tryz.func53, Tryz.ntmps53
    go_wp2
    go_ret
    exact ⟨rfl, rfl⟩
  by_cases h7 : b = 13
  · subst h7
    have hz : cls 13 = 6 := by decide
    rw [hz]; clear hz h1 h2 h3 h4 h5 h6
    go_enter Tryz.func53, Tryz.ntmps53
    go_wp2
    go_ret
    exact ⟨rfl, rfl⟩
  have e32 : (b == 32) = false := beq_eq_false_iff_ne.2 h4
  have e9 : (b == 9) = false := beq_eq_false_iff_ne.2 h5
  have e10 : (b == 10) = false := beq_eq_false_iff_ne.2 h6
  have e13 : (b == 13) = false := beq_eq_false_iff_ne.2 h7
  by_cases h8 : 33 ≤ b ∧ b ≤ 126
  · have hz : cls b = 5 := by unfold cls; rw [if_neg h1, if_neg h2, if_neg h3, if_neg (by omega), if_neg (by omega), if_pos h8]
    rw [hz]; clear hz
    obtain ⟨h8, h8'⟩ := h8
    rcases (by omega : b < 48 ∨ (57 < b ∧ b < 65) ∨ (90 < b ∧ b < 97) ∨ 122 < b) with h | ⟨h, h'⟩ | ⟨h, h'⟩ | h
    all_goals
      clear h1 h2 h3 h4 h5 h6 h7
      go_enter Tryz.func53, Tryz.ntmps53
      go_wp2
      go_ret
      exact ⟨rfl, rfl⟩
  · have hz : cls b = 0 := by unfold cls; rw [if_neg h1, if_neg h2, if_neg h3, if_neg (by omega), if_neg (by omega), if_neg h8]
    rw [hz]; clear hz
    rcases (by omega : b < 33 ∨ 126 < b) with h | h
    all_goals
      clear h1 h2 h3 h4 h5 h6 h7 h8
      go_enter Tryz.func53, Tryz.ntmps53
      go_wp2
      go_ret
      exact ⟨rfl, rfl⟩
end Go.Proofs.YticcdighfojjjaaGreatDoor

namespace Go.Proofs.YticcdighfojjjaaGreatDoor
open Go.ChangeShapes Go.WideShapes Go.ChangeAt Go.RowKit

def inWordB (b : Int) : Bool := decide (cls b = 1 ∨ cls b = 3 ∨ b = 45 ∨ b = 95 ∨ b = 46)
def allWord (l : List UInt8) : Bool := l.all fun c => inWordB c.toNat
def wordB (l : List UInt8) : Bool := decide (1 ≤ l.length ∧ l.length ≤ 32) && allWord l
theorem drop_byte (s : ByteArray) (k : Nat) (h : k < s.size) : s.data.toList.drop k = s[k] :: s.data.toList.drop (k + 1) := by
  rw [List.drop_eq_getElem_cons (by simpa using h)]; rfl
theorem byte_le (s : ByteArray) (k : Nat) (h : k < s.size) : (s[k].toNat : Int) ≤ 255 := by
  have := s[k].toNat_lt; omega

set_option maxHeartbeats 400000 in
theorem inWord_any (b : Int) (w : World) (hT : Tab w) (h0 : 0 ≤ b) (h1 : b ≤ 255) :
    Calls Tryz.prog 52 #[.int .u8 b] w fun e w' => e = .returned (.bool (inWordB b)) ∧ w = w' := by
  by_cases c1 : cls b = 1
  · have hp : inWordB b = true := by simp [inWordB, c1]
    have d1 : (cls b == 1) = true := beq_iff_eq.2 c1
    rw [hp]; clear hp c1
    go_enter Tryz.func52, Tryz.ntmps52
    go_wp2_with (go_at_call 78; refine (class_any _ _ hT).mono ?_; rintro e w' ⟨rfl, rfl⟩)
    go_ret
    exact ⟨rfl, rfl⟩
  have d1 : (cls b == 1) = false := beq_eq_false_iff_ne.2 c1
  by_cases c2 : cls b = 3
  · have hp : inWordB b = true := by simp [inWordB, c2]
    have d2 : (cls b == 3) = true := beq_iff_eq.2 c2
    rw [hp]; clear hp c1 c2
    go_enter Tryz.func52, Tryz.ntmps52
    go_wp2_with (go_at_call 78; refine (class_any _ _ hT).mono ?_; rintro e w' ⟨rfl, rfl⟩)
    go_ret
    exact ⟨rfl, rfl⟩
  have d2 : (cls b == 3) = false := beq_eq_false_iff_ne.2 c2
  have hp : inWordB b = (b == 45 || b == 95 || b == 46) := by rw [Bool.eq_iff_iff]; simp [inWordB, c1, c2, or_assoc]
  rw [hp]; clear hp c1 c2
  by_cases e1 : b = 45
  · subst e1
    go_enter Tryz.func52, Tryz.ntmps52
    go_wp2_with (go_at_call 78; refine (class_any _ _ hT).mono ?_; rintro e w' ⟨rfl, rfl⟩)
    go_ret
    exact ⟨rfl, rfl⟩
  by_cases e2 : b = 95
  · subst e2
    go_enter Tryz.func52, Tryz.ntmps52
    go_wp2_with (go_at_call 78; refine (class_any _ _ hT).mono ?_; rintro e w' ⟨rfl, rfl⟩)
    go_ret
    exact ⟨rfl, rfl⟩
  have f1 : (b == 45) = false := beq_eq_false_iff_ne.2 e1
  have f2 : (b == 95) = false := beq_eq_false_iff_ne.2 e2
  rw [f1, f2]
  by_cases e3 : b = 46
  · subst e3
    go_enter Tryz.func52, Tryz.ntmps52
    go_wp2_with (go_at_call 78; refine (class_any _ _ hT).mono ?_; rintro e w' ⟨rfl, rfl⟩)
    go_ret
    exact ⟨rfl, rfl⟩
  have f3 : (b == 46) = false := beq_eq_false_iff_ne.2 e3
  rw [f3]
  clear e1 e2 e3
  go_enter Tryz.func52, Tryz.ntmps52
  go_wp2_with (go_at_call 78; refine (class_any _ _ hT).mono ?_; rintro e w' ⟨rfl, rfl⟩)
  go_ret
  exact ⟨rfl, rfl⟩

theorem wordB_long {l : List UInt8} (h : l.length = 0 ∨ 32 < l.length) : wordB l = false := by
  simp [wordB]; intros; omega
theorem allWord_cons (c : UInt8) (r : List UInt8) : allWord (c :: r) = (inWordB c.toNat && allWord r) := by simp [allWord]

set_option maxHeartbeats 400000 in
theorem isWord_any (s : ByteArray) (w : World) (hT : Tab w) (hs : s.size ≤ maxLen) :
    Calls Tryz.prog 35 #[.string s] w fun e w' => e = .returned (.bool (wordB s.data.toList)) ∧ w = w' := by
  unfold maxLen at hs
  have hl : s.data.toList.length = s.size := by simp
  by_cases h0 : s.size = 0
  · rw [wordB_long (Or.inl (by omega))]
    have g0 : ((s.size : Int) == 0) = true := beq_iff_eq.2 (by omega)
    clear hl h0
    go_enter Tryz.func35, Tryz.ntmps35
    go_wp2
    go_ret
    exact ⟨rfl, rfl⟩
  have g0 : ((s.size : Int) == 0) = false := beq_eq_false_iff_ne.2 (by omega)
  by_cases h1 : 32 < s.size
  · rw [wordB_long (Or.inr (by omega))]
    clear hl h0
    go_enter Tryz.func35, Tryz.ntmps35
    go_wp2
    go_ret
    exact ⟨rfl, rfl⟩
  have hw : wordB s.data.toList = allWord s.data.toList := by
    have : decide (1 ≤ s.data.toList.length ∧ s.data.toList.length ≤ 32) = true := by simp only [hl]; simp; omega
    rw [wordB, this]; rfl
  rw [hw]
  have h2 : decide (32 < (s.size : Int)) = false := by simp; omega
  clear hl h0 hw
  go_enter Tryz.func35, Tryz.ntmps35
  go_wp2
  go_loop [3] (fun i => ∃ k : Nat, k ≤ s.size ∧ i = .int .i64 k ∧ Hid (allWord s.data.toList = allWord (s.data.toList.drop k))) (fun i => s.size - (intOf i).toNat)
  case atStart => exact ⟨0, by omega, rfl, Lib.hid rfl⟩
  case round =>
    obtain ⟨k, hk, rfl, HR⟩ := hrel
    by_cases hlt : k < s.size
    · have hb := byte_le s k hlt
      have HD := Lib.hid (drop_byte s k hlt)
      by_cases hc : inWordB s[k].toNat = true
      · go_wp2_with (go_at_call 52; refine (inWord_any _ _ hT (by omega) (by omega)).mono ?_; rintro e w' ⟨rfl, rfl⟩)
        go_round
        case rel => exact ⟨k + 1, by omega, by go_num, Lib.hid (by rw [HR.out, HD.out, allWord_cons, hc]; rfl)⟩
        case measure => simp [intOf]; omega
      · have hc' : inWordB s[k].toNat = false := by simpa using hc
        clear hc
        go_wp2_with (go_at_call 52; refine (inWord_any _ _ hT (by omega) (by omega)).mono ?_; rintro e w' ⟨rfl, rfl⟩)
        go_ret
        exact ⟨by rw [HR.out, HD.out, allWord_cons, hc']; rfl, rfl⟩
    · go_wp2
      go_ret
      exact ⟨by rw [HR.out, List.drop_eq_nil_of_le (by simp; omega)]; rfl, rfl⟩
end Go.Proofs.YticcdighfojjjaaGreatDoor
