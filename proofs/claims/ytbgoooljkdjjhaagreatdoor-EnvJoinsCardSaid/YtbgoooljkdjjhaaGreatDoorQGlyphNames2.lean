/-
  GlyphNames2.
-/
import Derived.Test.YtbgoooljkdjjhaaGreatDoorQGlyphNames
namespace Go.Proofs.YtbgoooljkdjjhaaGreatDoor
open Go.ChangeShapes Go.WideShapes Go.ChangeAt Go.RowKit

theorem ret_bool {a b : Bool} (h : b = a) : Ending.returned (.bool a) = .returned (.bool b) := by rw [h]
theorem nameB_long {l : List UInt8} (h : 32 < l.length) : nameB l = false := by
  simp [nameB]; intros; omega
theorem nameGo_small {p : Nat} {bg : Bool} {c : UInt8} {r : List UInt8} (h : cls c.toNat = 1) : nameGo p bg (c :: r) = nameGo p false r := by rw [nameGo, if_pos h]
theorem nameGo_begin {p : Nat} {c : UInt8} {r : List UInt8} (h : ¬ cls c.toNat = 1) : nameGo p true (c :: r) = false := by rw [nameGo, if_neg h, if_pos rfl]
theorem nameGo_point {p : Nat} {c : UInt8} {r : List UInt8} (h : ¬ cls c.toNat = 1) (h2 : (c.toNat : Int) = 46) : nameGo p false (c :: r) = nameGo (p + 1) true r := by rw [nameGo, if_neg h, if_neg (by simp), if_pos h2]
theorem nameGo_digit {p : Nat} {c : UInt8} {r : List UInt8} (h : ¬ cls c.toNat = 1) (h2 : ¬ (c.toNat : Int) = 46) (h3 : cls c.toNat = 3) : nameGo p false (c :: r) = nameGo p false r := by rw [nameGo, if_neg h, if_neg (by simp), if_neg h2, if_pos h3]
theorem nameGo_no {p : Nat} {c : UInt8} {r : List UInt8} (h : ¬ cls c.toNat = 1) (h2 : ¬ (c.toNat : Int) = 46) (h3 : ¬ cls c.toNat = 3) : nameGo p false (c :: r) = false := by rw [nameGo, if_neg h, if_neg (by simp), if_neg h2, if_neg h3]

set_option maxHeartbeats 800000 in
theorem isName_any (s : ByteArray) (w : World) (hT : Tab w) (hs : s.size ≤ maxLen) :
    Calls Tryz.prog 39 #[.string s] w fun e w' => e = .returned (.bool (nameB s.data.toList)) ∧ w = w' := by
  unfold maxLen at hs
  have hl : s.data.toList.length = s.size := by simp
  by_cases h1 : 32 < s.size
  · rw [nameB_long (by omega)]
    clear hl
    go_enter Tryz.func39, Tryz.ntmps39
    go_wp2
    go_ret
    exact ⟨rfl, rfl⟩
  have hw : nameB s.data.toList = nameGo 1 true s.data.toList := by
    have : decide (s.data.toList.length ≤ 32) = true := by simp only [hl]; simp; omega
    rw [nameB, this]; rfl
  rw [hw]
  have h2 : decide (32 < (s.size : Int)) = false := by simp; omega
  clear hl hw
  go_enter Tryz.func39, Tryz.ntmps39
  go_wp2
  go_loop [3, 4, 5] (fun p bg i => ∃ (k n : Nat) (g : Bool), k ≤ s.size ∧ n ≤ k + 1 ∧ p = .int .i64 n ∧ bg = .bool g ∧ i = .int .i64 k ∧ Hid (nameGo 1 true s.data.toList = nameGo n g (s.data.toList.drop k))) (fun _ _ i => s.size - (intOf i).toNat)
  case atStart => exact ⟨0, 1, true, by omega, by omega, rfl, rfl, rfl, Lib.hid rfl⟩
  case round =>
    obtain ⟨k, n, g, hk, hn, rfl, rfl, rfl, HR⟩ := hrel
    by_cases hlt : k < s.size
    · have hb := byte_le s k hlt
      have HD := Lib.hid (drop_byte s k hlt)
      by_cases c1 : cls s[k].toNat = 1
      · have d1 : (cls (s[k].toNat : Int) == 1) = true := beq_iff_eq.2 c1
        have C1 := Lib.hid c1
        clear c1
        go_wp2_with (go_at_call 66; refine (class_any _ _ hT).mono ?_; rintro e w' ⟨rfl, rfl⟩)
        go_round
        case rel => exact ⟨k + 1, n, false, by omega, by omega, rfl, rfl, by go_num, Lib.hid (by rw [HR.out, HD.out, nameGo_small C1.out])⟩
        case measure => simp [intOf]; omega
      have d1 : (cls (s[k].toNat : Int) == 1) = false := beq_eq_false_iff_ne.2 c1
      have C1 := Lib.hid c1
      clear c1
      cases g with
      | true =>
        go_wp2_with (go_at_call 66; refine (class_any _ _ hT).mono ?_; rintro e w' ⟨rfl, rfl⟩)
        go_ret
        exact ⟨ret_bool (by rw [HR.out, HD.out, nameGo_begin C1.out]), rfl⟩
      | false =>
        by_cases c2 : (s[k].toNat : Int) = 46
        · have d2 : ((s[k].toNat : Int) == 46) = true := beq_iff_eq.2 c2
          have C2 := Lib.hid c2
          clear c2
          go_wp2_with (go_at_call 66; refine (class_any _ _ hT).mono ?_; rintro e w' ⟨rfl, rfl⟩)
          go_round
          case rel => exact ⟨k + 1, n + 1, true, by omega, by omega, by go_num, rfl, by go_num, Lib.hid (by rw [HR.out, HD.out, nameGo_point C1.out C2.out])⟩
          case measure => simp [intOf]; omega
        have d2 : ((s[k].toNat : Int) == 46) = false := beq_eq_false_iff_ne.2 c2
        have C2 := Lib.hid c2
        clear c2
        by_cases c3 : cls s[k].toNat = 3
        · have d3 : (cls (s[k].toNat : Int) == 3) = true := beq_iff_eq.2 c3
          have d4 : (cls (s[k].toNat : Int) != 3) = false := by rw [bne, d3]; rfl
          have C3 := Lib.hid c3
          clear c3
          go_wp2_with (go_at_call 66; refine (class_any _ _ hT).mono ?_; rintro e w' ⟨rfl, rfl⟩)
          go_round
          case rel => exact ⟨k + 1, n, false, by omega, by omega, rfl, rfl, by go_num, Lib.hid (by rw [HR.out, HD.out, nameGo_digit C1.out C2.out C3.out])⟩
          case measure => simp [intOf]; omega
        · have d3 : (cls (s[k].toNat : Int) == 3) = false := beq_eq_false_iff_ne.2 c3
          have d4 : (cls (s[k].toNat : Int) != 3) = true := by rw [bne, d3]; rfl
          have C3 := Lib.hid c3
          clear c3
          go_wp2_with (go_at_call 66; refine (class_any _ _ hT).mono ?_; rintro e w' ⟨rfl, rfl⟩)
          go_ret
          exact ⟨ret_bool (by rw [HR.out, HD.out, nameGo_no C1.out C2.out C3.out]), rfl⟩
    · have HE : Hid (nameGo n g (s.data.toList.drop k) = (!g && decide (n ≤ 3))) := Lib.hid (by rw [List.drop_eq_nil_of_le (by simp; omega)]; rfl)
      cases g with
      | true =>
        go_wp2
        go_ret
        exact ⟨ret_bool (by rw [HR.out, HE.out]; rfl), rfl⟩
      | false =>
        by_cases h3 : n ≤ 3
        · go_wp2
          go_ret
          exact ⟨ret_bool (by rw [HR.out, HE.out]; simp [h3]; omega), rfl⟩
        · go_wp2
          go_ret
          exact ⟨ret_bool (by rw [HR.out, HE.out]; simp [h3]; omega), rfl⟩

theorem inWordB_yes {b : Int} (h : inWordB b = true) : cls b = 1 ∨ cls b = 3 ∨ b = 45 ∨ b = 95 ∨ b = 46 := by simpa [inWordB] using h
theorem inWordB_no {b : Int} (h : inWordB b = false) : ¬ cls b = 1 ∧ ¬ cls b = 3 ∧ ¬ b = 45 ∧ ¬ b = 95 ∧ ¬ b = 46 := by simpa [inWordB] using h
theorem ne_true {a b : Int} (h : ¬ a = b) : (a != b) = true := by simpa using h
theorem ne_false {a b : Int} (h : a = b) : (a != b) = false := by simpa using h

set_option maxHeartbeats 800000 in
theorem refIsWord_any (s : ByteArray) (w : World) (hs : s.size ≤ maxLen) :
    Calls Tryz.prog 146 #[.string s] w fun e w' => e = .returned (.bool (wordB s.data.toList)) ∧ w = w' := by
  unfold maxLen at hs
  go_enter Tryz.func146, Tryz.ntmps146
  go_wp2
  go_loop [3] (fun i => ∃ k : Nat, k ≤ s.size ∧ i = .int .i64 k ∧ Hid (allWord s.data.toList = allWord (s.data.toList.drop k))) (fun i => s.size - (intOf i).toNat)
  case atStart => exact ⟨0, by omega, rfl, Lib.hid rfl⟩
  case round =>
    obtain ⟨k, hk, rfl, HR⟩ := hrel
    by_cases hlt : k < s.size
    · have hb := byte_le s k hlt
      have HD := Lib.hid (drop_byte s k hlt)
      by_cases hc : inWordB s[k].toNat = true
      · have HC := Lib.hid hc
        have hy := inWordB_yes hc
        clear hc
        by_cases q1 : cls s[k].toNat = 1
        · have g1 := ne_false q1
          clear hy q1
          go_wp2_with (go_at_call 98; refine (refClass_any _ _).mono ?_; rintro e w' ⟨rfl, rfl⟩)
          go_round
          case rel => exact ⟨k + 1, by omega, by go_num, Lib.hid (by rw [HR.out, HD.out, allWord_cons, HC.out]; rfl)⟩
          case measure => simp [intOf]; omega
        have g1 := ne_true q1
        by_cases q2 : cls s[k].toNat = 3
        · have g2 := ne_false q2
          clear hy q1 q2
          go_wp2_with (go_at_call 98; refine (refClass_any _ _).mono ?_; rintro e w' ⟨rfl, rfl⟩)
          go_round
          case rel => exact ⟨k + 1, by omega, by go_num, Lib.hid (by rw [HR.out, HD.out, allWord_cons, HC.out]; rfl)⟩
          case measure => simp [intOf]; omega
        have g2 := ne_true q2
        by_cases q3 : (s[k].toNat : Int) = 45
        · have g3 := ne_false q3
          clear hy q1 q2 q3
          go_wp2_with (go_at_call 98; refine (refClass_any _ _).mono ?_; rintro e w' ⟨rfl, rfl⟩)
          go_round
          case rel => exact ⟨k + 1, by omega, by go_num, Lib.hid (by rw [HR.out, HD.out, allWord_cons, HC.out]; rfl)⟩
          case measure => simp [intOf]; omega
        have g3 := ne_true q3
        by_cases q4 : (s[k].toNat : Int) = 95
        · have g4 := ne_false q4
          clear hy q1 q2 q3 q4
          go_wp2_with (go_at_call 98; refine (refClass_any _ _).mono ?_; rintro e w' ⟨rfl, rfl⟩)
          go_round
          case rel => exact ⟨k + 1, by omega, by go_num, Lib.hid (by rw [HR.out, HD.out, allWord_cons, HC.out]; rfl)⟩
          case measure => simp [intOf]; omega
        have g4 := ne_true q4
        have g5 : ((s[k].toNat : Int) != 46) = false := ne_false (by omega)
        clear hy q1 q2 q3 q4
        go_wp2_with (go_at_call 98; refine (refClass_any _ _).mono ?_; rintro e w' ⟨rfl, rfl⟩)
        go_round
        case rel => exact ⟨k + 1, by omega, by go_num, Lib.hid (by rw [HR.out, HD.out, allWord_cons, HC.out]; rfl)⟩
        case measure => simp [intOf]; omega
      · have hc' : inWordB s[k].toNat = false := by simpa using hc
        obtain ⟨q1, q2, q3, q4, q5⟩ := inWordB_no hc'
        have HC : Hid (wordB s.data.toList = false) := Lib.hid (by rw [wordB, HR.out, HD.out, allWord_cons, hc']; simp)
        have g1 := ne_true q1
        have g2 := ne_true q2
        have g3 := ne_true q3
        have g4 := ne_true q4
        have g5 := ne_true q5
        clear hc hc' q1 q2 q3 q4 q5
        go_wp2_with (go_at_call 98; refine (refClass_any _ _).mono ?_; rintro e w' ⟨rfl, rfl⟩)
        go_ret
        exact ⟨ret_bool HC.out, rfl⟩
    · have HC : Hid (wordB s.data.toList = decide (1 ≤ s.size ∧ s.size ≤ 32)) := Lib.hid (by
        rw [wordB, HR.out, List.drop_eq_nil_of_le (by simp; omega)]; simp [allWord])
      by_cases h1 : 1 ≤ s.size
      · by_cases h2 : s.size ≤ 32
        · go_wp2
          go_ret
          exact ⟨ret_bool (by rw [HC.out]; simp [h1, h2]; omega), rfl⟩
        · go_wp2
          go_ret
          exact ⟨ret_bool (by rw [HC.out]; simp [h2]; omega), rfl⟩
      · go_wp2
        go_ret
        exact ⟨ret_bool (by rw [HC.out]; simp [h1]), rfl⟩
end Go.Proofs.YtbgoooljkdjjhaaGreatDoor
