/-
  GlyphNames2.
-/
import Derived.Test.YticcdighfojjjaaGreatDoorQGlyphNames
namespace Go.Proofs.YticcdighfojjjaaGreatDoor
open Go.ChangeShapes Go.WideShapes Go.ChangeAt Go.RowKit

theorem ret_bool {a b : Bool} (h : b = a) : Ending.returned (.bool a) = .returned (.bool b) := by rw [h]
theorem inWordB_yes {b : Int} (h : inWordB b = true) : cls b = 1 ∨ cls b = 3 ∨ b = 45 ∨ b = 95 ∨ b = 46 := by simpa [inWordB] using h
theorem inWordB_no {b : Int} (h : inWordB b = false) : ¬ cls b = 1 ∧ ¬ cls b = 3 ∧ ¬ b = 45 ∧ ¬ b = 95 ∧ ¬ b = 46 := by simpa [inWordB] using h
theorem ne_true {a b : Int} (h : ¬ a = b) : (a != b) = true := by simpa using h
theorem ne_false {a b : Int} (h : a = b) : (a != b) = false := by simpa using h

set_option maxHeartbeats 800000 in
theorem refIsWord_any (s : ByteArray) (w : World) (hs : s.size ≤ maxLen) :
    Calls Tryz.prog 36 #[.string s] w fun e w' => e = .returned (.bool (wordB s.data.toList)) ∧ w = w' := by
  unfold maxLen at hs
  go_enter Tryz.func36, Tryz.ntmps36
  go_wp2
  go_loop [3] (fun i => ∃ k : Nat, k ≤ s.size ∧ i = .int .i64 k ∧ Hid (allWord s.data.toList = allWord (s.data.toList.drop k))) (fun i => s.size - (intOf i).toNat)
  case atStart => exact ⟨0, by omega, rfl, Lib.hid rfl⟩
  case round =>
    obtain ⟨k, hk, rfl, HR⟩ := hrel
    by_cases hlt : k < s.size
    · have hb := byte_le s k hlt
      have HD := Lib.hid (drop_byte s k hlt)
      by_cases hc : inWordB s[k].toNat = true
      · have HC := Lib.hid hc
        have hy := inWordB_yes hc
        clear hc
        by_cases q1 : cls s[k].toNat = 1
        · have g1 := ne_false q1
          clear hy q1
          go_wp2_with (go_at_call 53; refine (refClass_any _ _).mono ?_; rintro e w' ⟨rfl, rfl⟩)
          go_round
          case rel => exact ⟨k + 1, by omega, by go_num, Lib.hid (by rw [HR.out, HD.out, allWord_cons, HC.out]; rfl)⟩
          case measure => simp [intOf]; omega
        have g1 := ne_true q1
        by_cases q2 : cls s[k].toNat = 3
        · have g2 := ne_false q2
          clear hy q1 q2
          go_wp2_with (go_at_call 53; refine (refClass_any _ _).mono ?_; rintro e w' ⟨rfl, rfl⟩)
          go_round
          case rel => exact ⟨k + 1, by omega, by go_num, Lib.hid (by rw [HR.out, HD.out, allWord_cons, HC.out]; rfl)⟩
          case measure => simp [intOf]; omega
        have g2 := ne_true q2
        by_cases q3 : (s[k].toNat : Int) = 45
        · have g3 := ne_false q3
          clear hy q1 q2 q3
          go_wp2_with (go_at_call 53; refine (refClass_any _ _).mono ?_; rintro e w' ⟨rfl, rfl⟩)
          go_round
          case rel => exact ⟨k + 1, by omega, by go_num, Lib.hid (by rw [HR.out, HD.out, allWord_cons, HC.out]; rfl)⟩
          case measure => simp [intOf]; omega
        have g3 := ne_true q3
        by_cases q4 : (s[k].toNat : Int) = 95
        · have g4 := ne_false q4
          clear hy q1 q2 q3 q4
          go_wp2_with (go_at_call 53; refine (refClass_any _ _).mono ?_; rintro e w' ⟨rfl, rfl⟩)
          go_round
          case rel => exact ⟨k + 1, by omega, by go_num, Lib.hid (by rw [HR.out, HD.out, allWord_cons, HC.out]; rfl)⟩
          case measure => simp [intOf]; omega
        have g4 := ne_true q4
        have g5 : ((s[k].toNat : Int) != 46) = false := ne_false (by omega)
        clear hy q1 q2 q3 q4
        go_wp2_with (go_at_call 53; refine (refClass_any _ _).mono ?_; rintro e w' ⟨rfl, rfl⟩)
        go_round
        case rel => exact ⟨k + 1, by omega, by go_num, Lib.hid (by rw [HR.out, HD.out, allWord_cons, HC.out]; rfl)⟩
        case measure => simp [intOf]; omega
      · have hc' : inWordB s[k].toNat = false := by simpa using hc
        obtain ⟨q1, q2, q3, q4, q5⟩ := inWordB_no hc'
        have HC : Hid (wordB s.data.toList = false) := Lib.hid (by rw [wordB, HR.out, HD.out, allWord_cons, hc']; simp)
        have g1 := ne_true q1
        have g2 := ne_true q2
        have g3 := ne_true q3
        have g4 := ne_true q4
        have g5 := ne_true q5
        clear hc hc' q1 q2 q3 q4 q5
        go_wp2_with (go_at_call 53; refine (refClass_any _ _).mono ?_; rintro e w' ⟨rfl, rfl⟩)
        go_ret
        exact ⟨ret_bool HC.out, rfl⟩
    · have HC : Hid (wordB s.data.toList = decide (1 ≤ s.size ∧ s.size ≤ 32)) := Lib.hid (by
        rw [wordB, HR.out, List.drop_eq_nil_of_le (by simp; omega)]; simp [allWord])
      by_cases h1 : 1 ≤ s.size
      · by_cases h2 : s.size ≤ 32
        · go_wp2
          go_ret
          exact ⟨ret_bool (by rw [HC.out]; simp [h1, h2]; omega), rfl⟩
        · go_wp2
          go_ret
          exact ⟨ret_bool (by rw [HC.out]; simp [h2]; omega), rfl⟩
      · go_wp2
        go_ret
        exact ⟨ret_bool (by rw [HC.out]; simp [h1]), rfl⟩
end Go.Proofs.YticcdighfojjjaaGreatDoor
