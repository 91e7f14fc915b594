/-
  The walk of the document's own 'next'.
-/
import Derived.Test.YtbpbiakdigjcnaaDoorGlyphUnquote2
import Derived.Lib.IndexBytes
namespace Go.Proofs.YtbpbiakdigjcnaaDoor
open Go.ChangeShapes Go.WideShapes Go.ChangeAt Go.RowKit

theorem printB_yes {b : Int} (h : printB b = true) : 32 ≤ b ∧ b ≤ 126 := by simpa [printB] using h
theorem printB_no {b : Int} (h : printB b = false) : b < 32 ∨ 126 < b := by
  have : ¬ (32 ≤ b ∧ b ≤ 126) := by simpa [printB] using h
  omega
theorem printB_of {b : Int} (h : 32 ≤ b ∧ b ≤ 126) : printB b = true := by simpa [printB] using h
theorem printB_not {b : Int} (h : b < 32 ∨ 126 < b) : printB b = false := by
  have : ¬ (32 ≤ b ∧ b ≤ 126) := by omega
  simpa [printB] using this

set_option maxHeartbeats 1600000 in
theorem refNext_any (t : ByteArray) (w : World) (ht : t.size ≤ maxLen) (h0 : 0 < t.size) :
    Calls Tryd.prog 76 #[.string t] w fun e w' => e = pair (nextB t.data.toList) ∧ w = w' := by
  have hb0 := bt_get t 0 h0
  unfold maxLen at ht
  have hl : t.data.toList.length = t.size := by simp
  by_cases e2 : (t[0].toNat : Int) = 34
  · have HE : Hid (nextB t.data.toList = (0, 0)) := Lib.hid (by rw [nextB, hb0, if_neg (by omega), if_pos (Or.inl e2)])
    have d2 : ((t[0].toNat : Int) == 34) = true := beq_iff_eq.2 e2
    clear e2 hb0 hl
    go_enter Tryd.func76, Tryd.ntmps76
    go_wp2
    go_ret2
    exact ⟨by rw [HE.out]; rfl, rfl⟩
  have d2 : ((t[0].toNat : Int) == 34) = false := beq_eq_false_iff_ne.2 e2
  by_cases p1 : (t[0].toNat : Int) < 32
  · have HE : Hid (nextB t.data.toList = (0, 0)) := Lib.hid (by rw [nextB, hb0, if_neg (by omega), if_pos (Or.inr (printB_not (Or.inl p1)))])
    clear e2 hb0 hl
    go_enter Tryd.func76, Tryd.ntmps76
    go_wp2
    go_ret2
    exact ⟨by rw [HE.out]; rfl, rfl⟩
  by_cases p2 : 126 < (t[0].toNat : Int)
  · have HE : Hid (nextB t.data.toList = (0, 0)) := Lib.hid (by rw [nextB, hb0, if_neg (by omega), if_pos (Or.inr (printB_not (Or.inr p2)))])
    clear e2 hb0 hl
    go_enter Tryd.func76, Tryd.ntmps76
    go_wp2
    go_ret2
    exact ⟨by rw [HE.out]; rfl, rfl⟩
  by_cases e1 : ¬ (t[0].toNat : Int) = 92
  · have HE : Hid (nextB t.data.toList = (t[0], 1)) := Lib.hid (by
      rw [nextB, hb0, if_neg e1, if_neg (by rw [printB_of (by omega)]; simp [e2])])
    have d1 := ne_true e1
    clear e1 e2 hb0 hl
    go_enter Tryd.func76, Tryd.ntmps76
    go_wp2
    go_ret2
    exact ⟨by rw [HE.out]; rfl, rfl⟩
  replace e1 : (t[0].toNat : Int) = 92 := Decidable.not_not.1 e1
  have HN : Hid (nextB t.data.toList = escB t.data.toList) := Lib.hid (by rw [nextB, hb0, if_pos e1])
  have d1 := ne_false e1
  by_cases h2 : 2 ≤ t.size
  · have hb1 := bt_get t 1 (by omega)
    by_cases f1 : (t[1].toNat : Int) = 34
    · have HE : Hid (escB t.data.toList = (t[1], 2)) := Lib.hid (by rw [escB, hb1, if_pos ⟨by omega, Or.inl f1⟩])
      have g1 : ((t[1].toNat : Int) == 34) = true := beq_iff_eq.2 f1
      clear e1 e2 f1 hb0 hb1 hl
      go_enter Tryd.func76, Tryd.ntmps76
      go_wp2
      go_ret2
      exact ⟨by rw [HN.out, HE.out]; rfl, rfl⟩
    have g1 : ((t[1].toNat : Int) == 34) = false := beq_eq_false_iff_ne.2 f1
    by_cases f2 : (t[1].toNat : Int) = 92
    · have HE : Hid (escB t.data.toList = (t[1], 2)) := Lib.hid (by rw [escB, hb1, if_pos ⟨by omega, Or.inr f2⟩])
      have g2 : ((t[1].toNat : Int) == 92) = true := beq_iff_eq.2 f2
      clear e1 e2 f1 f2 hb0 hb1 hl
      go_enter Tryd.func76, Tryd.ntmps76
      go_wp2
      go_ret2
      exact ⟨by rw [HN.out, HE.out]; rfl, rfl⟩
    have g2 : ((t[1].toNat : Int) == 92) = false := beq_eq_false_iff_ne.2 f2
    by_cases h4 : 4 ≤ t.size
    · by_cases f3 : (t[1].toNat : Int) = 120
      · have i2 : 2 < t.size := by omega
        have i3 : 3 < t.size := by omega
        have HE : Hid (escB t.data.toList = numB t[2] t[3]) := Lib.hid (by
          rw [escB, hb1, if_neg (by omega), if_pos ⟨by omega, f3⟩, bt_get t 2 (by omega), bt_get t 3 (by omega)])
        have g3 := ne_false f3
        obtain ⟨a0, a1⟩ := hexVal_le t[2]
        obtain ⟨b0, b1⟩ := hexVal_le t[3]
        clear e1 e2 f1 f2 f3 hb0 hb1 hl
        by_cases n1 : hexVal t[2] < 0
        · have HP : Hid (numB t[2] t[3] = (0, 0)) := Lib.hid (by rw [numB, if_pos (Or.inl n1)])
          go_enter Tryd.func76, Tryd.ntmps76
          go_wp2_with (go_at_call 88; refine (digit_any _ _).mono ?_; rintro e w' ⟨rfl, rfl⟩)
          go_ret2
          exact ⟨by rw [HN.out, HE.out, HP.out]; rfl, rfl⟩
        by_cases n2 : hexVal t[3] < 0
        · have HP : Hid (numB t[2] t[3] = (0, 0)) := Lib.hid (by rw [numB, if_pos (Or.inr n2)])
          go_enter Tryd.func76, Tryd.ntmps76
          go_wp2_with (go_at_call 88; refine (digit_any _ _).mono ?_; rintro e w' ⟨rfl, rfl⟩)
          go_ret2
          exact ⟨by rw [HN.out, HE.out, HP.out]; rfl, rfl⟩
        rcases Bool.eq_false_or_eq_true (printB ((16 : Int) * hexVal t[2] + hexVal t[3])) with hp | hp
        · have HP : Hid (numB t[2] t[3] = (0, 0)) := Lib.hid (by rw [numB, if_neg (by omega), if_pos hp])
          obtain ⟨r1, r2⟩ := printB_yes hp
          clear hp
          go_enter Tryd.func76, Tryd.ntmps76
          go_wp2_with (go_at_call 88; refine (digit_any _ _).mono ?_; rintro e w' ⟨rfl, rfl⟩)
          go_ret2
          exact ⟨by rw [HN.out, HE.out, HP.out]; rfl, rfl⟩
        · have HP : Hid (numB t[2] t[3] = (UInt8.ofNat ((16 : Int) * hexVal t[2] + hexVal t[3]).toNat, 4)) := Lib.hid (by rw [numB, if_neg (by omega), hp]; rfl)
          have hor := printB_no hp
          clear hp
          rcases hor with r1 | r1
          all_goals
            go_enter Tryd.func76, Tryd.ntmps76
            go_wp2_with (go_at_call 88; refine (digit_any _ _).mono ?_; rintro e w' ⟨rfl, rfl⟩)
            go_ret2
            exact ⟨by rw [HN.out, HE.out, HP.out]; exact pair_of (by simp; omega) rfl, rfl⟩
      · have HE : Hid (escB t.data.toList = (0, 0)) := Lib.hid (by rw [escB, hb1, if_neg (by omega), if_neg (by omega)])
        have g3 := ne_true f3
        clear e1 e2 f1 f2 f3 hb0 hb1 hl
        go_enter Tryd.func76, Tryd.ntmps76
        go_wp2
        go_ret2
        exact ⟨by rw [HN.out, HE.out]; rfl, rfl⟩
    · have HE : Hid (escB t.data.toList = (0, 0)) := Lib.hid (by rw [escB, hb1, if_neg (by omega), if_neg (by omega)])
      clear e1 e2 f1 f2 hb0 hb1 hl
      go_enter Tryd.func76, Tryd.ntmps76
      go_wp2
      go_ret2
      exact ⟨by rw [HN.out, HE.out]; rfl, rfl⟩
  · have HE : Hid (escB t.data.toList = (0, 0)) := Lib.hid (by rw [escB, if_neg (by omega), if_neg (by omega)])
    clear e1 e2 hb0 hl
    go_enter Tryd.func76, Tryd.ntmps76
    go_wp2
    go_ret2
    exact ⟨by rw [HN.out, HE.out]; rfl, rfl⟩

end Go.Proofs.YtbpbiakdigjcnaaDoor
