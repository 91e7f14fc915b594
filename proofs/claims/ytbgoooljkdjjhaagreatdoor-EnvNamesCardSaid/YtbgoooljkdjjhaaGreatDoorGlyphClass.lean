/-
  The walks of 'glyph.Class' and of the document's own 'Class'.
-/
import Derived.Test.YtbgoooljkdjjhaaGreatDoorGlyphSpec
namespace Go.Proofs.YtbgoooljkdjjhaaGreatDoor
open Go.ChangeShapes Go.WideShapes Go.ChangeAt Go.RowKit

set_option maxHeartbeats 400000 in
theorem class_any (b : Int) (w : World) (hT : Tab w) :
    Calls Tryz.prog 66 #[.int .i64 b] w fun e w' => e = .returned (.int .i64 (cls b)) ∧ w = w' := by
  by_cases h0 : b < 0
  · have hz := cls_out (Or.inl h0)
    rw [hz]; clear hz hT
    go_enter Tryz.func66, Tryz.ntmps66
    go_wp2
    go_ret
    exact ⟨rfl, rfl⟩
  by_cases h1 : 127 < b
  · have hz := cls_out (Or.inr h1)
    rw [hz]; clear hz hT
    go_enter Tryz.func66, Tryz.ntmps66
    go_wp2
    go_ret
    exact ⟨rfl, rfl⟩
  obtain ⟨n, rfl⟩ := Int.eq_ofNat_of_zero_le (Int.not_lt.1 h0)
  obtain ⟨hc0, hc1⟩ := cls_in n
  by_cases h2 : n < 32
  · have hc := hT.1 n h2
    clear hT
    go_enter Tryz.func66, Tryz.ntmps66
    go_wp2
    go_ret
    exact ⟨rfl, rfl⟩
  by_cases h3 : n < 64
  · have hc := hT.2.1 (n - 32) (by omega)
    rw [show (32 + ((n - 32 : Nat) : Int)) = (n : Int) from by omega] at hc
    clear hT
    go_enter Tryz.func66, Tryz.ntmps66
    go_wp2
    go_ret
    exact ⟨rfl, rfl⟩
  by_cases h4 : n < 96
  · have hc := hT.2.2.1 (n - 64) (by omega)
    rw [show (64 + ((n - 64 : Nat) : Int)) = (n : Int) from by omega] at hc
    clear hT
    go_enter Tryz.func66, Tryz.ntmps66
    go_wp2
    go_ret
    exact ⟨rfl, rfl⟩
  · have hc := hT.2.2.2 (n - 96) (by omega)
    rw [show (96 + ((n - 96 : Nat) : Int)) = (n : Int) from by omega] at hc
    clear hT
    go_enter Tryz.func66, Tryz.ntmps66
    go_wp2
    go_ret
    exact ⟨rfl, rfl⟩

set_option maxHeartbeats 400000 in
theorem refClass_any (b : Int) (w : World) :
    Calls Tryz.prog 98 #[.int .i64 b] w fun e w' => e = .returned (.int .i64 (cls b)) ∧ w = w' := by
  by_cases h1 : 97 ≤ b ∧ b ≤ 122
  · have hz : cls b = 1 := by unfold cls; rw [if_pos h1]
    rw [hz]; clear hz
    obtain ⟨h1, h1'⟩ := h1
    go_enter Tryz.func98, Tryz.ntmps98
    go_wp2
    go_ret
    exact ⟨rfl, rfl⟩
  by_cases h2 : 65 ≤ b ∧ b ≤ 90
  · have hz : cls b = 2 := by unfold cls; rw [if_neg h1, if_pos h2]
    rw [hz]; clear hz h1
    obtain ⟨h2, h2'⟩ := h2
    go_enter Tryz.func98, Tryz.ntmps98
    go_wp2
    go_ret
    exact ⟨rfl, rfl⟩
  by_cases h3 : 48 ≤ b ∧ b ≤ 57
  · have hz : cls b = 3 := by unfold cls; rw [if_neg h1, if_neg h2, if_pos h3]
    rw [hz]; clear hz h1 h2
    obtain ⟨h3, h3'⟩ := h3
    go_enter Tryz.func98, Tryz.ntmps98
    go_wp2
    go_ret
    exact ⟨rfl, rfl⟩
  by_cases h4 : b = 32
  · subst h4
    have hz : cls 32 = 4 := by decide
    rw [hz]; clear hz h1 h2 h3
    go_enter Tryz.func98, Tryz.ntmps98
    go_wp2
    go_ret
    exact ⟨rfl, rfl⟩
  by_cases h5 : b = 9
  · subst h5
    have hz : cls 9 = 4 := by decide
    rw [hz]; clear hz h1 h2 h3 h4
    go_enter Tryz.func98, Tryz.ntmps98
    go_wp2
    go_ret
    exact ⟨rfl, rfl⟩
  by_cases h6 : b = 10
  · subst h6
    have hz : cls 10 = 6 := by decide
    rw [hz]; clear hz h1 h2 h3 h4 h5
    go_enter Tryz.func98, Tryz.ntmps98
    go_wp2
    go_ret
    exact ⟨rfl, rfl⟩
  by_cases h7 : b = 13
  · subst h7
    have hz : cls 13 = 6 := by decide
    rw [hz]; clear hz h1 h2 h3 h4 h5 h6
    go_enter Tryz.func98, Tryz.ntmps98
    go_wp2
    go_ret
    exact ⟨rfl, rfl⟩
  have e32 : (b == 32) = false := beq_eq_false_iff_ne.2 h4
  have e9 : (b == 9) = false := beq_eq_false_iff_ne.2 h5
  have e10 : (b == 10) = false := beq_eq_false_iff_ne.2 h6
  have e13 : (b == 13) = false := beq_eq_false_iff_ne.2 h7
  by_cases h8 : 33 ≤ b ∧ b ≤ 126
  · have hz : cls b = 5 := by unfold cls; rw [if_neg h1, if_neg h2, if_neg h3, if_neg (by omega), if_neg (by omega), if_pos h8]
    rw [hz]; clear hz
    obtain ⟨h8, h8'⟩ := h8
    rcases (by omega : b < 48 ∨ (57 < b ∧ b < 65) ∨ (90 < b ∧ b < 97) ∨ 122 < b) with h | ⟨h, h'⟩ | ⟨h, h'⟩ | h
    all_goals
      clear h1 h2 h3 h4 h5 h6 h7
      go_enter Tryz.func98, Tryz.ntmps98
      go_wp2
      go_ret
      exact ⟨rfl, rfl⟩
  · have hz : cls b = 0 := by unfold cls; rw [if_neg h1, if_neg h2, if_neg h3, if_neg (by omega), if_neg (by omega), if_neg h8]
    rw [hz]; clear hz
    rcases (by omega : b < 33 ∨ 126 < b) with h | h
    all_goals
      clear h1 h2 h3 h4 h5 h6 h7 h8
      go_enter Tryz.func98, Tryz.ntmps98
      go_wp2
      go_ret
      exact ⟨rfl, rfl⟩
end Go.Proofs.YtbgoooljkdjjhaaGreatDoor
