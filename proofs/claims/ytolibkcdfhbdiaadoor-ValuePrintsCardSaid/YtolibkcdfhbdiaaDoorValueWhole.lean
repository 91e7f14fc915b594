/-
  The walk of the document's own 'whole'.
-/
import Derived.Test.YtolibkcdfhbdiaaDoorValueRefNum
namespace Go.Proofs.YtolibkcdfhbdiaaDoor
open Go.ChangeShapes Go.WideShapes Go.ChangeAt Go.RowKit

theorem refNum_no {l : List UInt8} (h : numOk l = false) : (refNum l).2 = false := by
  unfold refNum; split
  · exact h
  · rfl
theorem refNum_yes {l : List UInt8} (h : numOk l = true) : refNum l = (((capN (dec l) : Nat) : Int), true) := by
  unfold refNum; rw [numOk_all h, h]; rfl
theorem emp_false {s : ByteArray} (h : ¬ s.data.toList = []) : s.toList.isEmpty = false := by
  cases hq : s.toList with
  | nil => exact absurd (by rw [← toList_eq, hq]) h
  | cons a b => rfl
theorem neg_first {s : ByteArray} (h : negOf s.data.toList = true) : ∃ h0 : 0 < s.size, s[0].toNat = 45 := by
  rcases Nat.eq_zero_or_pos s.size with h0 | h0
  · have hl : s.data.toList.length = s.size := by simp
    rw [show s.data.toList = [] from List.eq_nil_of_length_eq_zero (by omega)] at h; cases h
  · refine ⟨h0, ?_⟩
    rw [first_of h0] at h
    have : s[0] = 45 := by simpa [negOf] using h
    rw [this]; rfl
theorem pos_first {s : ByteArray} (h : negOf s.data.toList = false) (h0 : 0 < s.size) : ¬ s[0].toNat = 45 := fun e => by
  rw [first_of h0] at h
  have : s[0] = 45 := UInt8.toNat_inj.1 e
  rw [this] at h; cases h
theorem size_data (s : ByteArray) : s.data.toList.length = s.size := by simp

set_option maxHeartbeats 1600000 in
set_option maxRecDepth 100000 in
theorem refWhole_any (s : ByteArray) (w : World) (hs : s.size ≤ maxLen) :
    Calls Tryd.prog 34 #[.string s] w fun e w' => e = .returned (numR (intOk 2 (wholeV s.data.toList))) ∧ Below w.heap.size w w' := by
  have hs' := hs
  unfold maxLen at hs'
  have HS := Lib.hid hs
  clear hs
  cases hng : negOf s.data.toList with
  | true =>
    obtain ⟨h0, h45⟩ := neg_first hng
    have hne : ¬ s.data.toList = [] := by rw [first_of h0]; simp
    have e0 := ne_text hne
    have e1 := emp_false hne
    have g1 : ((s[0].toNat : Int) == 45) = true := beq_iff_eq.2 (by omega)
    have q5 : (1 : Int) ≤ s.size := by omega
    obtain ⟨T, hTe⟩ : ∃ T, s.extract 1 s.size = T := ⟨_, rfl⟩
    have hTd : unsg s.data.toList = T.data.toList := by rw [← hTe, Lib.extract_to_end]; unfold unsg; rw [hng, if_pos rfl]
    have HX := Lib.hid hTe
    have hTs : T.size < s.size := by rw [← hTe, ByteArray.size_extract]; omega
    have HTS : Hid (T.size ≤ maxLen) := Lib.hid (by unfold maxLen; omega)
    have ht : (T.toList == s.toList) = false := beq_eq_false_iff_ne.2 fun h => by rw [toList_inj h] at hTs; omega
    have HW : Hid (wholeV s.data.toList = if numOk T.data.toList = false ∨ (true = true ∧ dec T.data.toList = 0) then (0, 40) else if 4611686018427387904 < dec T.data.toList then (0, 41) else (-(dec T.data.toList : Int), 0)) := Lib.hid (by unfold wholeV; rw [hTd, hng]; rfl)
    clear hng h45 hne hTe hTd hTs
    cases hok : numOk T.data.toList with
    | false =>
      have HV : Hid (intOk 2 (wholeV s.data.toList) = (zeroV, 40)) := Lib.hid (by rw [HW.out, if_pos (Or.inl hok)]; rfl)
      obtain ⟨m, hm⟩ : ∃ m, (refNum T.data.toList).1 = m := ⟨_, rfl⟩
      have HM := Lib.hid hm
      have HM2 := Lib.hid (refNum_no hok)
      clear hok hm
      go_enter Tryd.func34, Tryd.ntmps34
      go_wp2_with fail
      rw [HX.out]
      refine (refNumber_any _ _ HTS.out).mono ?_
      rintro e w' ⟨rfl, rfl⟩
      rw [HM.out, HM2.out]
      go_wp2
      exact bodyPost_ret (v := .tuple #[.agg #[.int .i64 0, .int .i64 0, .string ⟨#[]⟩, .slice none 0 0], .int .i64 40]) (by simp [results, Tryd.results34, go_sem]) rfl ⟨ret_val (by rw [HV.out]; rfl), (Below.refl _ _).alloc (Nat.le_refl _) _⟩
    | true =>
      obtain ⟨N, hN⟩ : ∃ N, dec T.data.toList = N := ⟨_, rfl⟩
      obtain ⟨C, hC⟩ : ∃ C, capN N = C := ⟨_, rfl⟩
      have HRN : Hid (refNum T.data.toList = ((C : Int), true)) := Lib.hid (by rw [refNum_yes hok, hN, hC])
      have hCle : C ≤ 4611686018427387905 := by rw [← hC]; exact cap_le N
      have q1 : (0 : Int) ≤ C := by omega
      have HW2 : Hid (wholeV s.data.toList = if N = 0 then (0, 40) else if 4611686018427387904 < N then (0, 41) else (-(N : Int), 0)) := Lib.hid (by rw [HW.out, hok, hN]; simp)
      clear hok hN
      by_cases hz : N = 0
      · have hC0 : C = 0 := by rw [← hC]; exact cap_zero.2 hz
        have HV : Hid (intOk 2 (wholeV s.data.toList) = (zeroV, 40)) := Lib.hid (by rw [HW2.out, if_pos hz]; rfl)
        subst hC0
        clear hC hz hCle q1
        go_enter Tryd.func34, Tryd.ntmps34
        go_wp2_with fail
        rw [HX.out]
        refine (refNumber_any _ _ HTS.out).mono ?_
        rintro e w' ⟨rfl, rfl⟩
        rw [HRN.out]
        go_wp2
        exact bodyPost_ret (v := .tuple #[.agg #[.int .i64 0, .int .i64 0, .string ⟨#[]⟩, .slice none 0 0], .int .i64 40]) (by simp [results, Tryd.results34, go_sem]) rfl ⟨ret_val (by rw [HV.out]; rfl), (Below.refl _ _).alloc (Nat.le_refl _) _⟩
      have d1 : ((C : Int) == 0) = false := beq_eq_false_iff_ne.2 (fun h => hz (cap_zero.1 (by rw [hC]; omega)))
      by_cases hg : 4611686018427387904 < N
      · have d2 : decide (4611686018427387904 < (C : Int)) = true := decide_eq_true (by have := cap_great.2 hg; rw [hC] at this; omega)
        have HV : Hid (intOk 2 (wholeV s.data.toList) = (zeroV, 41)) := Lib.hid (by rw [HW2.out, if_neg hz, if_pos hg]; rfl)
        clear hC hg hz hCle
        go_enter Tryd.func34, Tryd.ntmps34
        go_wp2_with fail
        rw [HX.out]
        refine (refNumber_any _ _ HTS.out).mono ?_
        rintro e w' ⟨rfl, rfl⟩
        rw [HRN.out]
        go_wp2
        exact bodyPost_ret (v := .tuple #[.agg #[.int .i64 0, .int .i64 0, .string ⟨#[]⟩, .slice none 0 0], .int .i64 41]) (by simp [results, Tryd.results34, go_sem]) rfl ⟨ret_val (by rw [HV.out]; rfl), (Below.refl _ _).alloc (Nat.le_refl _) _⟩
      · have hCN : C = N := by rw [← hC]; exact cap_small (by omega)
        subst hCN
        have d2 : decide (4611686018427387904 < (C : Int)) = false := decide_eq_false (by omega)
        have hC2 : (C : Int) ≤ 4611686018427387904 := by omega
        have HV : Hid (intOk 2 (wholeV s.data.toList) = (⟨2, (-(C : Int)), ⟨#[]⟩, []⟩, 0)) := Lib.hid (by rw [HW2.out, if_neg hz, if_neg hg]; rfl)
        clear hC hg hz hCle
        go_enter Tryd.func34, Tryd.ntmps34
        go_wp2_with fail
        rw [HX.out]
        refine (refNumber_any _ _ HTS.out).mono ?_
        rintro e w' ⟨rfl, rfl⟩
        rw [HRN.out]
        go_wp2
        exact bodyPost_ret (v := .tuple #[.agg #[.int .i64 2, .int .i64 (-(C : Int)), .string ⟨#[]⟩, .slice none 0 0], .int .i64 0]) (by simp [results, Tryd.results34, go_sem]) rfl ⟨ret_val (by rw [HV.out]; rfl), (Below.refl _ _).alloc (Nat.le_refl _) _⟩
  | false =>
    have hTd : unsg s.data.toList = s.data.toList := by unfold unsg; rw [hng]; rfl
    have HW : Hid (wholeV s.data.toList = if numOk s.data.toList = false ∨ (false = true ∧ dec s.data.toList = 0) then (0, 40) else if 4611686018427387904 < dec s.data.toList then (0, 41) else ((dec s.data.toList : Int), 0)) := Lib.hid (by unfold wholeV; rw [hTd, hng]; rfl)
    rcases Nat.eq_zero_or_pos s.size with h0 | h0
    · have hl := size_data s
      have hs0 : s.data.toList = [] := List.eq_nil_of_length_eq_zero (by omega)
      obtain rfl := eq_text hs0
      clear hTd hng h0 hl hs0 HW
      have HV : Hid (intOk 2 (wholeV (mkB []).data.toList) = (zeroV, 40)) := Lib.hid rfl
      have HM : Hid (refNum (mkB []).data.toList = (0, false)) := Lib.hid rfl
      go_enter Tryd.func34, Tryd.ntmps34
      unfold mkB at HM HS ⊢
      go_wp2_with fail
      refine (refNumber_any _ _ HS.out).mono ?_
      rintro e w' ⟨rfl, rfl⟩
      rw [HM.out]
      go_wp2
      exact bodyPost_ret (v := .tuple #[.agg #[.int .i64 0, .int .i64 0, .string ⟨#[]⟩, .slice none 0 0], .int .i64 40]) (by simp [results, Tryd.results34, go_sem]) rfl ⟨ret_val rfl, (Below.refl _ _).alloc (Nat.le_refl _) _⟩
    have hne : ¬ s.data.toList = [] := by rw [first_of h0]; simp
    have e0 := ne_text hne
    have e1 := emp_false hne
    have g1 : ((s[0].toNat : Int) == 45) = false := beq_eq_false_iff_ne.2 (fun h => pos_first hng h0 (by omega))
    clear hng hne hTd
    cases hok : numOk s.data.toList with
    | false =>
      have HV : Hid (intOk 2 (wholeV s.data.toList) = (zeroV, 40)) := Lib.hid (by rw [HW.out, if_pos (Or.inl hok)]; rfl)
      obtain ⟨m, hm⟩ : ∃ m, (refNum s.data.toList).1 = m := ⟨_, rfl⟩
      have HM := Lib.hid hm
      have HM2 := Lib.hid (refNum_no hok)
      clear hok hm
      go_enter Tryd.func34, Tryd.ntmps34
      go_wp2_with fail
      refine (refNumber_any _ _ HS.out).mono ?_
      rintro e w' ⟨rfl, rfl⟩
      rw [HM.out, HM2.out]
      go_wp2
      exact bodyPost_ret (v := .tuple #[.agg #[.int .i64 0, .int .i64 0, .string ⟨#[]⟩, .slice none 0 0], .int .i64 40]) (by simp [results, Tryd.results34, go_sem]) rfl ⟨ret_val (by rw [HV.out]; rfl), (Below.refl _ _).alloc (Nat.le_refl _) _⟩
    | true =>
      obtain ⟨N, hN⟩ : ∃ N, dec s.data.toList = N := ⟨_, rfl⟩
      obtain ⟨C, hC⟩ : ∃ C, capN N = C := ⟨_, rfl⟩
      have HRN : Hid (refNum s.data.toList = ((C : Int), true)) := Lib.hid (by rw [refNum_yes hok, hN, hC])
      have hCle : C ≤ 4611686018427387905 := by rw [← hC]; exact cap_le N
      have q1 : (0 : Int) ≤ C := by omega
      have HW2 : Hid (wholeV s.data.toList = if 4611686018427387904 < N then (0, 41) else ((N : Int), 0)) := Lib.hid (by rw [HW.out, hok, hN]; simp)
      clear hok hN
      by_cases hg : 4611686018427387904 < N
      · have d2 : decide (4611686018427387904 < (C : Int)) = true := decide_eq_true (by have := cap_great.2 hg; rw [hC] at this; omega)
        have HV : Hid (intOk 2 (wholeV s.data.toList) = (zeroV, 41)) := Lib.hid (by rw [HW2.out, if_pos hg]; rfl)
        clear hC hg hCle
        cases hb : ((C : Int) == 0)
        all_goals
          go_enter Tryd.func34, Tryd.ntmps34
          go_wp2_with fail
          refine (refNumber_any _ _ HS.out).mono ?_
          rintro e w' ⟨rfl, rfl⟩
          rw [HRN.out]
          go_wp2
          exact bodyPost_ret (v := .tuple #[.agg #[.int .i64 0, .int .i64 0, .string ⟨#[]⟩, .slice none 0 0], .int .i64 41]) (by simp [results, Tryd.results34, go_sem]) rfl ⟨ret_val (by rw [HV.out]; rfl), (Below.refl _ _).alloc (Nat.le_refl _) _⟩
      · have hCN : C = N := by rw [← hC]; exact cap_small (by omega)
        subst hCN
        have d2 : decide (4611686018427387904 < (C : Int)) = false := decide_eq_false (by omega)
        have hC2 : (C : Int) ≤ 4611686018427387904 := by omega
        have HV : Hid (intOk 2 (wholeV s.data.toList) = (⟨2, (C : Int), ⟨#[]⟩, []⟩, 0)) := Lib.hid (by rw [HW2.out, if_neg hg]; rfl)
        clear hC hg hCle
        cases hb : ((C : Int) == 0)
        all_goals
          go_enter Tryd.func34, Tryd.ntmps34
          go_wp2_with fail
          refine (refNumber_any _ _ HS.out).mono ?_
          rintro e w' ⟨rfl, rfl⟩
          rw [HRN.out]
          go_wp2
          exact bodyPost_ret (v := .tuple #[.agg #[.int .i64 2, .int .i64 (C : Int), .string ⟨#[]⟩, .slice none 0 0], .int .i64 0]) (by simp [results, Tryd.results34, go_sem]) rfl ⟨ret_val (by rw [HV.out]; rfl), (Below.refl _ _).alloc (Nat.le_refl _) _⟩
end Go.Proofs.YtolibkcdfhbdiaaDoor
