/-
  ValueRefNum, ValueWhole, ValueUnited.
-/
import Derived.Test.YtlcgfdijohgnpaaGreatDoorQValueList
import Derived.Test.YtlcgfdijohgnpaaGreatDoorQValueInt
import Derived.Test.YtlcgfdijohgnpaaGreatDoorQValueMeasure
namespace Go.Proofs.YtlcgfdijohgnpaaGreatDoor
open Go.ChangeShapes Go.WideShapes Go.ChangeAt Go.RowKit

theorem all_drop {l : List UInt8} {c : UInt8} {r : List UInt8} {k : Nat} (h : l.drop k = c :: r) (hc : isD c = false) : l.all isD = false := by
 cases hq : l.all isD with
 | false => rfl
 | true =>
  have hm : c ∈ l := List.mem_of_mem_drop (i := k) (by rw [h]; exact List.mem_cons_self)
  have := List.all_eq_true.1 hq c hm
  rw [hc] at this; cases this
def refNum (l : List UInt8) : Int × Bool := if l.all isD then ((capN (dec l) : Nat), numOk l) else (0, false)
theorem cap_step (n m d : Nat) (h : m = capN n) (hd : d ≤ 9) : capN (n * 10 + d) = if m ≤ 461168601842738790 then min (10 * m + d) 4611686018427387905 else 4611686018427387905 := by
 subst h
 unfold capN bigN
 split <;> omega

set_option maxHeartbeats 400000 in
set_option maxRecDepth 100000 in
theorem refNumber_any (s : ByteArray) (w : World) (hs : s.size ≤ maxLen) :
  Calls Tryz.prog 100 #[.string s] w fun e w' => e = .returned (.tuple #[.int .i64 (refNum s.data.toList).1, .bool (refNum s.data.toList).2]) ∧ w = w' := by
 unfold maxLen at hs
 go_enter Tryz.func100, Tryz.ntmps100
 go_wp2
 go_loop [4, 5] (fun n i => ∃ k m : Nat, i = .int .i64 k ∧ k ≤ s.size ∧ n = .int .i64 m ∧ m ≤ 4611686018427387905 ∧ Hid ((s.data.toList.take k).all isD = true ∧ m = capN (dec (s.data.toList.take k)))) (fun _ i => s.size - (intOf i).toNat)
 case atStart => exact ⟨0, 0, rfl, by omega, rfl, by omega, Lib.hid ⟨rfl, rfl⟩⟩
 case round =>
  obtain ⟨k, m, rfl, hk, rfl, hm, HR⟩ := hrel
  by_cases hlt : k < s.size
  ·have hb := byte_le s k hlt
   have HD := Lib.hid (drop_byte s k hlt)
   by_cases hd : isD s[k] = true
   ·obtain ⟨hd1, hd2⟩ : 48 ≤ s[k].toNat ∧ s[k].toNat ≤ 57 := by simpa [isD] using hd
    obtain ⟨d, hde⟩ : ∃ d : Nat, s[k].toNat = d + 48 := ⟨s[k].toNat - 48, by omega⟩
    have hdle : d ≤ 9 := by omega
    have HX : Hid ((s.data.toList.take (k + 1)).all isD = true ∧ dec (s.data.toList.take (k + 1)) = dec (s.data.toList.take k) * 10 + d) := Lib.hid (by
     have e : s.data.toList.take (k + 1) = s.data.toList.take k ++ [s[k]] := by
      rw [List.take_succ_eq_append_getElem (by simpa using hlt)]; rfl
     refine ⟨by rw [e, List.all_append, HR.out.1]; simp [hd], ?_⟩
     unfold dec
     rw [e, decAcc_append, decAcc_cons, decAcc_nil, decS_eq, hde]; simp)
    have HS := Lib.hid (fun n h => cap_step n m d h hdle)
    have d1 : decide ((s[k].toNat : Int) < 48) = false := decide_eq_false (by omega)
    have d2 : decide (57 < (s[k].toNat : Int)) = false := decide_eq_false (by omega)
    have e1 : (s[k].toNat : Int) - 48 = (d : Int) := by omega
    have e2 : IntKind.u8.wrap ((s[k].toNat : Int) - 48) = (d : Int) := by rw [e1]; exact IntWalk.u8_in _ (by omega)
    have hb2 : (48 : Int) ≤ s[k].toNat := by omega
    clear hde
    by_cases h7 : m ≤ 461168601842738790
    ·obtain ⟨q, hq⟩ : ∃ q : Nat, min (10 * m + d) 4611686018427387905 = q := ⟨_, rfl⟩
     have hqle : q ≤ 4611686018427387905 := by omega
     have HM : Hid (capN (dec (s.data.toList.take (k + 1))) = q) := Lib.hid (by rw [HX.out.2, HS.out _ HR.out.2, if_pos h7, hq])
     have hmin : min (10 * (m : Int) + d) 4611686018427387905 = (q : Int) := by omega
     have d3 : decide ((m : Int) ≤ 461168601842738790) = true := decide_eq_true (by omega)
     clear hd hd1 hd2 hq
     go_wp2
     go_round
     case rel => exact ⟨k + 1, q, by go_num, by omega, rfl, hqle, Lib.hid ⟨HX.out.1, HM.out.symm⟩⟩
     case measure => simp [intOf]; omega
    ·have d3 : decide ((m : Int) ≤ 461168601842738790) = false := decide_eq_false (by omega)
     have HM : Hid (capN (dec (s.data.toList.take (k + 1))) = 4611686018427387905) := Lib.hid (by rw [HX.out.2, HS.out _ HR.out.2, if_neg h7])
     clear hd hd1 hd2 h7
     go_wp2
     go_round
     case rel => exact ⟨k + 1, 4611686018427387905, by go_num, by omega, rfl, by omega, Lib.hid ⟨HX.out.1, HM.out.symm⟩⟩
     case measure => simp [intOf]; omega
   ·have HX : Hid (refNum s.data.toList = (0, false)) := Lib.hid (by unfold refNum; rw [all_drop HD.out (by simpa using hd)]; rfl)
    rcases (by simp [isD] at hd; omega : s[k].toNat < 48 ∨ (48 ≤ s[k].toNat ∧ 57 < s[k].toNat)) with h | ⟨h, h'⟩
    ·have d1 : decide ((s[k].toNat : Int) < 48) = true := decide_eq_true (by omega)
     clear hd
     go_wp2
     go_ret2
     exact ⟨ret_val (by rw [HX.out]; rfl), rfl⟩
    ·have d1 : decide ((s[k].toNat : Int) < 48) = false := decide_eq_false (by omega)
     have d2 : decide (57 < (s[k].toNat : Int)) = true := decide_eq_true (by omega)
     clear hd
     go_wp2
     go_ret2
     exact ⟨ret_val (by rw [HX.out]; rfl), rfl⟩
  ·have hks : k = s.size := by omega
   have hall : s.data.toList.all isD = true ∧ m = capN (dec s.data.toList) := by have := HR.out; rwa [List.take_of_length_le (by simp; omega)] at this
   have hX : refNum s.data.toList = ((m : Int), numOk s.data.toList) := by unfold refNum; rw [hall.1, hall.2]; rfl
   have HX := Lib.hid hX
   by_cases h0 : s.size = 0
   ·have hlen : s.data.toList.length = s.size := by simp
    have hs0 : s.data.toList = [] := List.eq_nil_of_length_eq_zero (by omega)
    have HN : Hid (numOk s.data.toList = false) := Lib.hid (by rw [hs0]; rfl)
    have e0 : (s.toList == []) = true := by rw [toList_eq, hs0]; rfl
    have e1 : s.toList.isEmpty = true := by rw [toList_eq, hs0]; rfl
    clear hks hall hX hs0 hlen
    go_wp2
    go_ret2
    exact ⟨ret_val (by rw [HX.out, HN.out]; rfl), rfl⟩
   ·have hpos : 0 < s.size := by omega
    have hf := first_of hpos
    have hne : ¬ s.data.toList = [] := by rw [hf]; simp
    have e0 := ne_text hne
    have e1 : s.toList.isEmpty = false := by cases hq : s.toList with
     | nil => rw [hq] at e0; cases e0
     | cons a b => rfl
    by_cases h48 : s[0].toNat = 48
    ·have hc : s[0] = 48 := UInt8.toNat_inj.1 h48
     have g1 : ((s[0].toNat : Int) != 48) = false := ne_false (by omega)
     by_cases hl : s.size = 1
     ·have g2 : ((s.size : Int) == 1) = true := beq_iff_eq.2 (by omega)
      have HN : Hid (numOk s.data.toList = true) := Lib.hid (by
       have hall1 := hall.1
       rw [hf] at hall1 ⊢
       rw [numOk_iff, hall1, List.drop_eq_nil_of_le (by simp; omega)]; simp)
      clear hks hall hX hf hne hc h48 hl
      go_wp2
      go_ret2
      exact ⟨ret_val (by rw [HX.out, HN.out]; rfl), rfl⟩
     ·have g2 : ((s.size : Int) == 1) = false := beq_eq_false_iff_ne.2 (by omega)
      have HN : Hid (numOk s.data.toList = false) := Lib.hid (by
       rw [hf, numOk_iff, hc]
       have : (s.data.toList.drop 1).isEmpty = false := by
        cases hq : s.data.toList.drop 1 with
        | nil => have := congrArg List.length hq; simp at this; omega
        | cons a b => rfl
       rw [this]; simp)
      clear hks hall hX hf hne hc h48 hl
      go_wp2
      go_ret2
      exact ⟨ret_val (by rw [HX.out, HN.out]; rfl), rfl⟩
    ·have g1 : ((s[0].toNat : Int) != 48) = true := ne_true (by omega)
     have HN : Hid (numOk s.data.toList = true) := Lib.hid (by
      have hall1 := hall.1
      rw [hf] at hall1 ⊢
      rw [numOk_iff, hall1]
      have : (s[0] != 48) = true := by simpa using fun e => h48 (by rw [e]; rfl)
      rw [this]; rfl)
     clear hks hall hX hf hne h48
     go_wp2
     go_ret2
     exact ⟨ret_val (by rw [HX.out, HN.out]; rfl), rfl⟩
end Go.Proofs.YtlcgfdijohgnpaaGreatDoor

namespace Go.Proofs.YtlcgfdijohgnpaaGreatDoor
open Go.ChangeShapes Go.WideShapes Go.ChangeAt Go.RowKit

theorem refNum_no {l : List UInt8} (h : numOk l = false) : (refNum l).2 = false := by
 unfold refNum; split
 ·exact h
 ·rfl
theorem refNum_yes {l : List UInt8} (h : numOk l = true) : refNum l = (((capN (dec l) : Nat) : Int), true) := by
 unfold refNum; rw [numOk_all h, h]; rfl
theorem emp_false {s : ByteArray} (h : ¬ s.data.toList = []) : s.toList.isEmpty = false := by
 cases hq : s.toList with
 | nil => exact absurd (by rw [← toList_eq, hq]) h
 | cons a b => rfl
theorem neg_first {s : ByteArray} (h : negOf s.data.toList = true) : ∃ h0 : 0 < s.size, s[0].toNat = 45 := by
 rcases Nat.eq_zero_or_pos s.size with h0 | h0
 ·have hl : s.data.toList.length = s.size := by simp
  rw [show s.data.toList = [] from List.eq_nil_of_length_eq_zero (by omega)] at h; cases h
 ·refine ⟨h0, ?_⟩
  rw [first_of h0] at h
  have : s[0] = 45 := by simpa [negOf] using h
  rw [this]; rfl
theorem pos_first {s : ByteArray} (h : negOf s.data.toList = false) (h0 : 0 < s.size) : ¬ s[0].toNat = 45 := fun e => by
 rw [first_of h0] at h
 have : s[0] = 45 := UInt8.toNat_inj.1 e
 rw [this] at h; cases h
theorem size_data (s : ByteArray) : s.data.toList.length = s.size := by simp

set_option maxHeartbeats 1600000 in
set_option maxRecDepth 100000 in
theorem refWhole_any (s : ByteArray) (w : World) (hs : s.size ≤ maxLen) :
  Calls Tryz.prog 70 #[.string s] w fun e w' => e = .returned (numR (intOk 2 (wholeV s.data.toList))) ∧ Below w.heap.size w w' := by
 have hs' := hs
 unfold maxLen at hs'
 have HS := Lib.hid hs
 clear hs
 cases hng : negOf s.data.toList with
 | true =>
  obtain ⟨h0, h45⟩ := neg_first hng
  have hne : ¬ s.data.toList = [] := by rw [first_of h0]; simp
  have e0 := ne_text hne
  have e1 := emp_false hne
  have g1 : ((s[0].toNat : Int) == 45) = true := beq_iff_eq.2 (by omega)
  have q5 : (1 : Int) ≤ s.size := by omega
  obtain ⟨T, hTe⟩ : ∃ T, s.extract 1 s.size = T := ⟨_, rfl⟩
  have hTd : unsg s.data.toList = T.data.toList := by rw [← hTe, Lib.extract_to_end]; unfold unsg; rw [hng, if_pos rfl]
  have HX := Lib.hid hTe
  have hTs : T.size < s.size := by rw [← hTe, ByteArray.size_extract]; omega
  have HTS : Hid (T.size ≤ maxLen) := Lib.hid (by unfold maxLen; omega)
  have ht : (T.toList == s.toList) = false := beq_eq_false_iff_ne.2 fun h => by rw [toList_inj h] at hTs; omega
  have HW : Hid (wholeV s.data.toList = if numOk T.data.toList = false ∨ (true = true ∧ dec T.data.toList = 0) then (0, 40) else if 4611686018427387904 < dec T.data.toList then (0, 41) else (-(dec T.data.toList : Int), 0)) := Lib.hid (by unfold wholeV; rw [hTd, hng]; rfl)
  clear hng h45 hne hTe hTd hTs
  cases hok : numOk T.data.toList with
  | false =>
   have HV : Hid (intOk 2 (wholeV s.data.toList) = (zeroV, 40)) := Lib.hid (by rw [HW.out, if_pos (Or.inl hok)]; rfl)
   obtain ⟨m, hm⟩ : ∃ m, (refNum T.data.toList).1 = m := ⟨_, rfl⟩
   have HM := Lib.hid hm
   have HM2 := Lib.hid (refNum_no hok)
   clear hok hm
   go_enter Tryz.func70, Tryz.ntmps70
   go_wp2_with fail
   rw [HX.out]
   refine (refNumber_any _ _ HTS.out).mono ?_
   rintro e w' ⟨rfl, rfl⟩
   rw [HM.out, HM2.out]
   go_wp2
   exact bodyPost_ret (v := .tuple #[.agg #[.int .i64 0, .int .i64 0, .string ⟨#[]⟩, .slice none 0 0], .int .i64 40]) (by simp [results, Tryz.results70, go_sem]) rfl ⟨ret_val (by rw [HV.out]; rfl), (Below.refl _ _).alloc (Nat.le_refl _) _⟩
  | true =>
   obtain ⟨N, hN⟩ : ∃ N, dec T.data.toList = N := ⟨_, rfl⟩
   obtain ⟨C, hC⟩ : ∃ C, capN N = C := ⟨_, rfl⟩
   have HRN : Hid (refNum T.data.toList = ((C : Int), true)) := Lib.hid (by rw [refNum_yes hok, hN, hC])
   have hCle : C ≤ 4611686018427387905 := by rw [← hC]; exact cap_le N
   have q1 : (0 : Int) ≤ C := by omega
   have HW2 : Hid (wholeV s.data.toList = if N = 0 then (0, 40) else if 4611686018427387904 < N then (0, 41) else (-(N : Int), 0)) := Lib.hid (by rw [HW.out, hok, hN]; simp)
   clear hok hN
   by_cases hz : N = 0
   ·have hC0 : C = 0 := by rw [← hC]; exact cap_zero.2 hz
    have HV : Hid (intOk 2 (wholeV s.data.toList) = (zeroV, 40)) := Lib.hid (by rw [HW2.out, if_pos hz]; rfl)
    subst hC0
    clear hC hz hCle q1
    go_enter Tryz.func70, Tryz.ntmps70
    go_wp2_with fail
    rw [HX.out]
    refine (refNumber_any _ _ HTS.out).mono ?_
    rintro e w' ⟨rfl, rfl⟩
    rw [HRN.out]
    go_wp2
    exact bodyPost_ret (v := .tuple #[.agg #[.int .i64 0, .int .i64 0, .string ⟨#[]⟩, .slice none 0 0], .int .i64 40]) (by simp [results, Tryz.results70, go_sem]) rfl ⟨ret_val (by rw [HV.out]; rfl), (Below.refl _ _).alloc (Nat.le_refl _) _⟩
   have d1 : ((C : Int) == 0) = false := beq_eq_false_iff_ne.2 (fun h => hz (cap_zero.1 (by rw [hC]; omega)))
   by_cases hg : 4611686018427387904 < N
   ·have d2 : decide (4611686018427387904 < (C : Int)) = true := decide_eq_true (by have := cap_great.2 hg; rw [hC] at this; omega)
    have HV : Hid (intOk 2 (wholeV s.data.toList) = (zeroV, 41)) := Lib.hid (by rw [HW2.out, if_neg hz, if_pos hg]; rfl)
    clear hC hg hz hCle
    go_enter Tryz.func70, Tryz.ntmps70
    go_wp2_with fail
    rw [HX.out]
    refine (refNumber_any _ _ HTS.out).mono ?_
    rintro e w' ⟨rfl, rfl⟩
    rw [HRN.out]
    go_wp2
    exact bodyPost_ret (v := .tuple #[.agg #[.int .i64 0, .int .i64 0, .string ⟨#[]⟩, .slice none 0 0], .int .i64 41]) (by simp [results, Tryz.results70, go_sem]) rfl ⟨ret_val (by rw [HV.out]; rfl), (Below.refl _ _).alloc (Nat.le_refl _) _⟩
   ·have hCN : C = N := by rw [← hC]; exact cap_small (by omega)
    subst hCN
    have d2 : decide (4611686018427387904 < (C : Int)) = false := decide_eq_false (by omega)
    have hC2 : (C : Int) ≤ 4611686018427387904 := by omega
    have HV : Hid (intOk 2 (wholeV s.data.toList) = (⟨2, (-(C : Int)), ⟨#[]⟩, []⟩, 0)) := Lib.hid (by rw [HW2.out, if_neg hz, if_neg hg]; rfl)
    clear hC hg hz hCle
    go_enter Tryz.func70, Tryz.ntmps70
    go_wp2_with fail
    rw [HX.out]
    refine (refNumber_any _ _ HTS.out).mono ?_
    rintro e w' ⟨rfl, rfl⟩
    rw [HRN.out]
    go_wp2
    exact bodyPost_ret (v := .tuple #[.agg #[.int .i64 2, .int .i64 (-(C : Int)), .string ⟨#[]⟩, .slice none 0 0], .int .i64 0]) (by simp [results, Tryz.results70, go_sem]) rfl ⟨ret_val (by rw [HV.out]; rfl), (Below.refl _ _).alloc (Nat.le_refl _) _⟩
 | false =>
  have hTd : unsg s.data.toList = s.data.toList := by unfold unsg; rw [hng]; rfl
  have HW : Hid (wholeV s.data.toList = if numOk s.data.toList = false ∨ (false = true ∧ dec s.data.toList = 0) then (0, 40) else if 4611686018427387904 < dec s.data.toList then (0, 41) else ((dec s.data.toList : Int), 0)) := Lib.hid (by unfold wholeV; rw [hTd, hng]; rfl)
  rcases Nat.eq_zero_or_pos s.size with h0 | h0
  ·have hl := size_data s
   have hs0 : s.data.toList = [] := List.eq_nil_of_length_eq_zero (by omega)
   obtain rfl := eq_text hs0
   clear hTd hng h0 hl hs0 HW
   have HV : Hid (intOk 2 (wholeV (mkB []).data.toList) = (zeroV, 40)) := Lib.hid rfl
   have HM : Hid (refNum (mkB []).data.toList = (0, false)) := Lib.hid rfl
   go_enter Tryz.func70, Tryz.ntmps70
   unfold mkB at HM HS ⊢
   go_wp2_with fail
   refine (refNumber_any _ _ HS.out).mono ?_
   rintro e w' ⟨rfl, rfl⟩
   rw [HM.out]
   go_wp2
   exact bodyPost_ret (v := .tuple #[.agg #[.int .i64 0, .int .i64 0, .string ⟨#[]⟩, .slice none 0 0], .int .i64 40]) (by simp [results, Tryz.results70, go_sem]) rfl ⟨ret_val rfl, (Below.refl _ _).alloc (Nat.le_refl _) _⟩
  have hne : ¬ s.data.toList = [] := by rw [first_of h0]; simp
  have e0 := ne_text hne
  have e1 := emp_false hne
  have g1 : ((s[0].toNat : Int) == 45) = false := beq_eq_false_iff_ne.2 (fun h => pos_first hng h0 (by omega))
  clear hng hne hTd
  cases hok : numOk s.data.toList with
  | false =>
   have HV : Hid (intOk 2 (wholeV s.data.toList) = (zeroV, 40)) := Lib.hid (by rw [HW.out, if_pos (Or.inl hok)]; rfl)
   obtain ⟨m, hm⟩ : ∃ m, (refNum s.data.toList).1 = m := ⟨_, rfl⟩
   have HM := Lib.hid hm
   have HM2 := Lib.hid (refNum_no hok)
   clear hok hm
   go_enter Tryz.func70, Tryz.ntmps70
   go_wp2_with fail
   refine (refNumber_any _ _ HS.out).mono ?_
   rintro e w' ⟨rfl, rfl⟩
   rw [HM.out, HM2.out]
   go_wp2
   exact bodyPost_ret (v := .tuple #[.agg #[.int .i64 0, .int .i64 0, .string ⟨#[]⟩, .slice none 0 0], .int .i64 40]) (by simp [results, Tryz.results70, go_sem]) rfl ⟨ret_val (by rw [HV.out]; rfl), (Below.refl _ _).alloc (Nat.le_refl _) _⟩
  | true =>
   obtain ⟨N, hN⟩ : ∃ N, dec s.data.toList = N := ⟨_, rfl⟩
   obtain ⟨C, hC⟩ : ∃ C, capN N = C := ⟨_, rfl⟩
   have HRN : Hid (refNum s.data.toList = ((C : Int), true)) := Lib.hid (by rw [refNum_yes hok, hN, hC])
   have hCle : C ≤ 4611686018427387905 := by rw [← hC]; exact cap_le N
   have q1 : (0 : Int) ≤ C := by omega
   have HW2 : Hid (wholeV s.data.toList = if 4611686018427387904 < N then (0, 41) else ((N : Int), 0)) := Lib.hid (by rw [HW.out, hok, hN]; simp)
   clear hok hN
   by_cases hg : 4611686018427387904 < N
   ·have d2 : decide (4611686018427387904 < (C : Int)) = true := decide_eq_true (by have := cap_great.2 hg; rw [hC] at this; omega)
    have HV : Hid (intOk 2 (wholeV s.data.toList) = (zeroV, 41)) := Lib.hid (by rw [HW2.out, if_pos hg]; rfl)
    clear hC hg hCle
    cases hb : ((C : Int) == 0)
    all_goals
     go_enter Tryz.func70, Tryz.ntmps70
     go_wp2_with fail
     refine (refNumber_any _ _ HS.out).mono ?_
     rintro e w' ⟨rfl, rfl⟩
     rw [HRN.out]
     go_wp2
     exact bodyPost_ret (v := .tuple #[.agg #[.int .i64 0, .int .i64 0, .string ⟨#[]⟩, .slice none 0 0], .int .i64 41]) (by simp [results, Tryz.results70, go_sem]) rfl ⟨ret_val (by rw [HV.out]; rfl), (Below.refl _ _).alloc (Nat.le_refl _) _⟩
   ·have hCN : C = N := by rw [← hC]; exact cap_small (by omega)
    subst hCN
    have d2 : decide (4611686018427387904 < (C : Int)) = false := decide_eq_false (by omega)
    have hC2 : (C : Int) ≤ 4611686018427387904 := by omega
    have HV : Hid (intOk 2 (wholeV s.data.toList) = (⟨2, (C : Int), ⟨#[]⟩, []⟩, 0)) := Lib.hid (by rw [HW2.out, if_neg hg]; rfl)
    clear hC hg hCle
    cases hb : ((C : Int) == 0)
    all_goals
     go_enter Tryz.func70, Tryz.ntmps70
     go_wp2_with fail
     refine (refNumber_any _ _ HS.out).mono ?_
     rintro e w' ⟨rfl, rfl⟩
     rw [HRN.out]
     go_wp2
     exact bodyPost_ret (v := .tuple #[.agg #[.int .i64 2, .int .i64 (C : Int), .string ⟨#[]⟩, .slice none 0 0], .int .i64 0]) (by simp [results, Tryz.results70, go_sem]) rfl ⟨ret_val (by rw [HV.out]; rfl), (Below.refl _ _).alloc (Nat.le_refl _) _⟩
end Go.Proofs.YtlcgfdijohgnpaaGreatDoor

namespace Go.Proofs.YtlcgfdijohgnpaaGreatDoor
open Go.ChangeShapes Go.WideShapes Go.ChangeAt Go.RowKit

theorem nDig_at {s : ByteArray} {k : Nat} (h : k < s.size) : nDig (s.data.toList.drop k) = if isD s[k] then nDig (s.data.toList.drop (k + 1)) + 1 else 0 := by
 rw [drop_byte s k h]
 split
 ·rename_i hd; exact nDig_yes hd
 ·rename_i hd; exact nDig_no (by simpa using hd)
theorem refNum_tw (l : List UInt8) : refNum (l.takeWhile isD) = (((capN (dec (l.takeWhile isD)) : Nat) : Int), numOkS l) := by
 unfold refNum; rw [takeWhile_all]; rfl

set_option maxHeartbeats 1600000 in
set_option maxRecDepth 100000 in
theorem united3_any (s : ByteArray) (w : World) (hs : s.size ≤ maxLen) :
  Calls Tryz.prog 71 #[.int .i64 3, .string s] w fun e w' => e = .returned (numR (intOk 3 (unitedV 3 s.data.toList))) ∧ Below w.heap.size w w' := by
 unfold maxLen at hs
 obtain ⟨d, hd⟩ : ∃ d, nDig s.data.toList = d := ⟨_, rfl⟩
 have hdle := nDig_le s.data.toList
 rw [hd, size_data] at hdle
 have hX : (s.extract 0 d).data.toList = s.data.toList.takeWhile isD := by rw [Lib.extract_from_zero, ← hd, nDig_take]
 have hY : (s.extract d s.size).data.toList = s.data.toList.dropWhile isD := by rw [Lib.extract_to_end, ← hd, nDig_drop]
 obtain ⟨T, hT⟩ : ∃ T, s.extract 0 d = T := ⟨_, rfl⟩
 obtain ⟨r, hr⟩ : ∃ r, s.extract d s.size = r := ⟨_, rfl⟩
 rw [hT] at hX
 rw [hr] at hY
 have HT := Lib.hid hT
 have HRR := Lib.hid hr
 have HTS : Hid (T.size ≤ maxLen) := Lib.hid (by unfold maxLen; rw [← hT, ByteArray.size_extract]; omega)
 obtain ⟨N, hN⟩ : ∃ N, dec (s.data.toList.takeWhile isD) = N := ⟨_, rfl⟩
 obtain ⟨C, hC⟩ : ∃ C, capN N = C := ⟨_, rfl⟩
 have hCle : C ≤ 4611686018427387905 := by rw [← hC]; exact cap_le N
 obtain ⟨ok, hok⟩ : ∃ ok, numOkS s.data.toList = ok := ⟨_, rfl⟩
 have HRN : Hid (refNum T.data.toList = ((C : Int), ok)) := Lib.hid (by rw [hX, refNum_tw, hN, hC, hok])
 obtain ⟨u, hu⟩ : ∃ u, unitV 3 r.data.toList = u := ⟨_, rfl⟩
 have HU := Lib.hid hu
 have hub := unit_bd 3 r.data.toList
 rw [hu] at hub
 obtain ⟨hu0, hu1⟩ := hub
 have q1 : (0 : Int) ≤ C := by omega
 have q2 : (d : Int) ≤ s.size := by omega
 have q3 : (0 : Int) ≤ d := by omega
 have HDD : Hid (nDig s.data.toList = d) := Lib.hid hd
 cases ok with
 | false =>
  have h48 : (s.toList == [48]) = false := ne_text (fun h => by rw [h, one48] at hok; cases hok)
  have HV : Hid (intOk 3 (unitedV 3 s.data.toList) = (zeroV, 40)) := Lib.hid (by unfold unitedV; rw [if_pos (Or.inl (show numOk (s.data.toList.takeWhile isD) = false from hok))]; rfl)
  clear hd hT hr hN hC hok hu hX hY
  go_enter Tryz.func71, Tryz.ntmps71
  go_wp2
  go_loop [6] (fun i => ∃ k : Nat, i = .int .i64 k ∧ k ≤ s.size ∧ Hid (nDig s.data.toList = k + nDig (s.data.toList.drop k))) (fun i => s.size - (intOf i).toNat)
  case atStart => exact ⟨0, rfl, by omega, Lib.hid (by simp)⟩
  case round =>
   obtain ⟨k, rfl, hk, HK⟩ := hrel
   by_cases hlt : k < s.size
   ·have hat := nDig_at hlt
    have hb := byte_le s k hlt
    by_cases hdg : isD s[k] = true
    ·have HX : Hid (nDig s.data.toList = (k + 1) + nDig (s.data.toList.drop (k + 1))) := Lib.hid (by rw [HK.out, hat, if_pos hdg]; omega)
     obtain ⟨hd1, hd2⟩ : 48 ≤ s[k].toNat ∧ s[k].toNat ≤ 57 := by simpa [isD] using hdg
     have t1 : decide ((48 : Int) ≤ s[k].toNat) = true := decide_eq_true (by omega)
     have t2 : decide ((s[k].toNat : Int) ≤ 57) = true := decide_eq_true (by omega)
     clear hat hdg
     go_wp2
     go_round
     case rel => exact ⟨k + 1, by go_num, by omega, HX⟩
     case measure => simp [intOf]; omega
    ·have hkd : k = d := by have := HK.out; rw [hat, if_neg hdg, HDD.out] at this; omega
     have hno : s[k].toNat < 48 ∨ (48 ≤ s[k].toNat ∧ 57 < s[k].toNat) := by simp [isD] at hdg; omega
     clear hat hdg
     subst hkd
     rcases hno with h | ⟨h, h'⟩
     ·have t1 : decide ((48 : Int) ≤ s[k].toNat) = false := decide_eq_false (by omega)
      go_wp2_with fail
      rw [HT.out]
      refine (refNumber_any _ _ HTS.out).mono ?_
      rintro e w' ⟨rfl, rfl⟩
      rw [HRN.out]
      go_wp2_with fail
      rw [HRR.out]
      refine (refUnit_any 3 _ _).mono ?_
      rintro e w' ⟨rfl, rfl⟩
      rw [HU.out]
      go_wp2
      exact bodyPost_ret (v := .tuple #[.agg #[.int .i64 0, .int .i64 0, .string ⟨#[]⟩, .slice none 0 0], .int .i64 40]) (by simp [results, Tryz.results71, go_sem]) rfl ⟨ret_val (by rw [HV.out]; rfl), (Below.refl _ _).alloc (Nat.le_refl _) _⟩
     ·have t1 : decide ((48 : Int) ≤ s[k].toNat) = true := decide_eq_true (by omega)
      have t2 : decide ((s[k].toNat : Int) ≤ 57) = false := decide_eq_false (by omega)
      go_wp2_with fail
      rw [HT.out]
      refine (refNumber_any _ _ HTS.out).mono ?_
      rintro e w' ⟨rfl, rfl⟩
      rw [HRN.out]
      go_wp2_with fail
      rw [HRR.out]
      refine (refUnit_any 3 _ _).mono ?_
      rintro e w' ⟨rfl, rfl⟩
      rw [HU.out]
      go_wp2
      exact bodyPost_ret (v := .tuple #[.agg #[.int .i64 0, .int .i64 0, .string ⟨#[]⟩, .slice none 0 0], .int .i64 40]) (by simp [results, Tryz.results71, go_sem]) rfl ⟨ret_val (by rw [HV.out]; rfl), (Below.refl _ _).alloc (Nat.le_refl _) _⟩
   ·have hkd : k = d := by have := HK.out; rw [List.drop_eq_nil_of_le (by rw [size_data]; omega), HDD.out] at this; simp [nDig] at this; omega
    subst hkd
    go_wp2_with fail
    rw [HT.out]
    refine (refNumber_any _ _ HTS.out).mono ?_
    rintro e w' ⟨rfl, rfl⟩
    rw [HRN.out]
    go_wp2_with fail
    rw [HRR.out]
    refine (refUnit_any 3 _ _).mono ?_
    rintro e w' ⟨rfl, rfl⟩
    rw [HU.out]
    go_wp2
    exact bodyPost_ret (v := .tuple #[.agg #[.int .i64 0, .int .i64 0, .string ⟨#[]⟩, .slice none 0 0], .int .i64 40]) (by simp [results, Tryz.results71, go_sem]) rfl ⟨ret_val (by rw [HV.out]; rfl), (Below.refl _ _).alloc (Nat.le_refl _) _⟩
 | true =>
  have hsp : spanU 3 s.data.toList = u := by unfold spanU; rw [if_neg (by intro h; exact absurd h.1 (by decide)), ← hY, hu]
  have hW : unitedV 3 s.data.toList = if u = 0 then (0, 40) else if 1125899906842624 / u < (N : Int) then (0, 41) else ((N : Int) * u, 0) := by
   unfold unitedV
   rw [hsp, hN, show numOk (s.data.toList.takeWhile isD) = true from hok]
   simp [mostV]
  have HW := Lib.hid hW
  by_cases hz : u = 0
  ·subst hz
   have HV : Hid (intOk 3 (unitedV 3 s.data.toList) = (zeroV, 40)) := Lib.hid (by rw [HW.out, if_pos rfl]; rfl)
   clear hW hsp hd hT hr hN hC hok hu hX hY
   go_enter Tryz.func71, Tryz.ntmps71
   go_wp2
   go_loop [6] (fun i => ∃ k : Nat, i = .int .i64 k ∧ k ≤ s.size ∧ Hid (nDig s.data.toList = k + nDig (s.data.toList.drop k))) (fun i => s.size - (intOf i).toNat)
   case atStart => exact ⟨0, rfl, by omega, Lib.hid (by simp)⟩
   case round =>
    obtain ⟨k, rfl, hk, HK⟩ := hrel
    by_cases hlt : k < s.size
    ·have hat := nDig_at hlt
     have hb := byte_le s k hlt
     by_cases hdg : isD s[k] = true
     ·have HX : Hid (nDig s.data.toList = (k + 1) + nDig (s.data.toList.drop (k + 1))) := Lib.hid (by rw [HK.out, hat, if_pos hdg]; omega)
      obtain ⟨hd1, hd2⟩ : 48 ≤ s[k].toNat ∧ s[k].toNat ≤ 57 := by simpa [isD] using hdg
      have t1 : decide ((48 : Int) ≤ s[k].toNat) = true := decide_eq_true (by omega)
      have t2 : decide ((s[k].toNat : Int) ≤ 57) = true := decide_eq_true (by omega)
      clear hat hdg
      go_wp2
      go_round
      case rel => exact ⟨k + 1, by go_num, by omega, HX⟩
      case measure => simp [intOf]; omega
     ·have hkd : k = d := by have := HK.out; rw [hat, if_neg hdg, HDD.out] at this; omega
      have hno : s[k].toNat < 48 ∨ (48 ≤ s[k].toNat ∧ 57 < s[k].toNat) := by simp [isD] at hdg; omega
      clear hat hdg
      subst hkd
      rcases hno with h | ⟨h, h'⟩
      ·have t1 : decide ((48 : Int) ≤ s[k].toNat) = false := decide_eq_false (by omega)
       go_wp2_with fail
       rw [HT.out]
       refine (refNumber_any _ _ HTS.out).mono ?_
       rintro e w' ⟨rfl, rfl⟩
       rw [HRN.out]
       go_wp2_with fail
       rw [HRR.out]
       refine (refUnit_any 3 _ _).mono ?_
       rintro e w' ⟨rfl, rfl⟩
       rw [HU.out]
       go_wp2
       exact bodyPost_ret (v := .tuple #[.agg #[.int .i64 0, .int .i64 0, .string ⟨#[]⟩, .slice none 0 0], .int .i64 40]) (by simp [results, Tryz.results71, go_sem]) rfl ⟨ret_val (by rw [HV.out]; rfl), (Below.refl _ _).alloc (Nat.le_refl _) _⟩
      ·have t1 : decide ((48 : Int) ≤ s[k].toNat) = true := decide_eq_true (by omega)
       have t2 : decide ((s[k].toNat : Int) ≤ 57) = false := decide_eq_false (by omega)
       go_wp2_with fail
       rw [HT.out]
       refine (refNumber_any _ _ HTS.out).mono ?_
       rintro e w' ⟨rfl, rfl⟩
       rw [HRN.out]
       go_wp2_with fail
       rw [HRR.out]
       refine (refUnit_any 3 _ _).mono ?_
       rintro e w' ⟨rfl, rfl⟩
       rw [HU.out]
       go_wp2
       exact bodyPost_ret (v := .tuple #[.agg #[.int .i64 0, .int .i64 0, .string ⟨#[]⟩, .slice none 0 0], .int .i64 40]) (by simp [results, Tryz.results71, go_sem]) rfl ⟨ret_val (by rw [HV.out]; rfl), (Below.refl _ _).alloc (Nat.le_refl _) _⟩
    ·have hkd : k = d := by have := HK.out; rw [List.drop_eq_nil_of_le (by rw [size_data]; omega), HDD.out] at this; simp [nDig] at this; omega
     subst hkd
     go_wp2_with fail
     rw [HT.out]
     refine (refNumber_any _ _ HTS.out).mono ?_
     rintro e w' ⟨rfl, rfl⟩
     rw [HRN.out]
     go_wp2_with fail
     rw [HRR.out]
     refine (refUnit_any 3 _ _).mono ?_
     rintro e w' ⟨rfl, rfl⟩
     rw [HU.out]
     go_wp2
     exact bodyPost_ret (v := .tuple #[.agg #[.int .i64 0, .int .i64 0, .string ⟨#[]⟩, .slice none 0 0], .int .i64 40]) (by simp [results, Tryz.results71, go_sem]) rfl ⟨ret_val (by rw [HV.out]; rfl), (Below.refl _ _).alloc (Nat.le_refl _) _⟩
  have e0 : (u == 0) = false := beq_eq_false_iff_ne.2 hz
  have u1 : 1 ≤ u := by omega
  have hdm := div_le_self' (m := 1125899906842624) (u := u) (by decide)
  by_cases hg : 1125899906842624 / u < (N : Int)
  ·have hg2 : 1125899906842624 / u < (C : Int) := by
    rcases Nat.lt_or_ge N 4611686018427387905 with h | h
    ·rw [← hC, cap_small (by omega)]; exact hg
    ·rw [← hC, cap_big h]; omega
   have d1 : decide (1125899906842624 / u < (C : Int)) = true := decide_eq_true hg2
   have d2 : decide ((1125899906842624 : Int).tdiv u < (C : Int)) = true := decide_eq_true (by rw [tdiv_of (by decide)]; exact hg2)
   have HV : Hid (intOk 3 (unitedV 3 s.data.toList) = (zeroV, 41)) := Lib.hid (by rw [HW.out, if_neg hz, if_pos hg]; rfl)
   clear hg hg2 hz hW hsp hdm hd hT hr hN hC hok hu hX hY
   go_enter Tryz.func71, Tryz.ntmps71
   go_wp2
   go_loop [6] (fun i => ∃ k : Nat, i = .int .i64 k ∧ k ≤ s.size ∧ Hid (nDig s.data.toList = k + nDig (s.data.toList.drop k))) (fun i => s.size - (intOf i).toNat)
   case atStart => exact ⟨0, rfl, by omega, Lib.hid (by simp)⟩
   case round =>
    obtain ⟨k, rfl, hk, HK⟩ := hrel
    by_cases hlt : k < s.size
    ·have hat := nDig_at hlt
     have hb := byte_le s k hlt
     by_cases hdg : isD s[k] = true
     ·have HX : Hid (nDig s.data.toList = (k + 1) + nDig (s.data.toList.drop (k + 1))) := Lib.hid (by rw [HK.out, hat, if_pos hdg]; omega)
      obtain ⟨hd1, hd2⟩ : 48 ≤ s[k].toNat ∧ s[k].toNat ≤ 57 := by simpa [isD] using hdg
      have t1 : decide ((48 : Int) ≤ s[k].toNat) = true := decide_eq_true (by omega)
      have t2 : decide ((s[k].toNat : Int) ≤ 57) = true := decide_eq_true (by omega)
      clear hat hdg
      go_wp2
      go_round
      case rel => exact ⟨k + 1, by go_num, by omega, HX⟩
      case measure => simp [intOf]; omega
     ·have hkd : k = d := by have := HK.out; rw [hat, if_neg hdg, HDD.out] at this; omega
      have hno : s[k].toNat < 48 ∨ (48 ≤ s[k].toNat ∧ 57 < s[k].toNat) := by simp [isD] at hdg; omega
      clear hat hdg
      subst hkd
      rcases hno with h | ⟨h, h'⟩
      ·have t1 : decide ((48 : Int) ≤ s[k].toNat) = false := decide_eq_false (by omega)
       go_wp2_with fail
       rw [HT.out]
       refine (refNumber_any _ _ HTS.out).mono ?_
       rintro e w' ⟨rfl, rfl⟩
       rw [HRN.out]
       go_wp2_with fail
       rw [HRR.out]
       refine (refUnit_any 3 _ _).mono ?_
       rintro e w' ⟨rfl, rfl⟩
       rw [HU.out]
       go_wp2_with fail
       refine (refMost_any 3 _).mono ?_
       rintro e w' ⟨rfl, rfl⟩
       rw [show mostV 3 = 1125899906842624 from rfl]
       go_wp2
       exact bodyPost_ret (v := .tuple #[.agg #[.int .i64 0, .int .i64 0, .string ⟨#[]⟩, .slice none 0 0], .int .i64 41]) (by simp [results, Tryz.results71, go_sem]) rfl ⟨ret_val (by rw [HV.out]; rfl), (Below.refl _ _).alloc (Nat.le_refl _) _⟩
      ·have t1 : decide ((48 : Int) ≤ s[k].toNat) = true := decide_eq_true (by omega)
       have t2 : decide ((s[k].toNat : Int) ≤ 57) = false := decide_eq_false (by omega)
       go_wp2_with fail
       rw [HT.out]
       refine (refNumber_any _ _ HTS.out).mono ?_
       rintro e w' ⟨rfl, rfl⟩
       rw [HRN.out]
       go_wp2_with fail
       rw [HRR.out]
       refine (refUnit_any 3 _ _).mono ?_
       rintro e w' ⟨rfl, rfl⟩
       rw [HU.out]
       go_wp2_with fail
       refine (refMost_any 3 _).mono ?_
       rintro e w' ⟨rfl, rfl⟩
       rw [show mostV 3 = 1125899906842624 from rfl]
       go_wp2
       exact bodyPost_ret (v := .tuple #[.agg #[.int .i64 0, .int .i64 0, .string ⟨#[]⟩, .slice none 0 0], .int .i64 41]) (by simp [results, Tryz.results71, go_sem]) rfl ⟨ret_val (by rw [HV.out]; rfl), (Below.refl _ _).alloc (Nat.le_refl _) _⟩
    ·have hkd : k = d := by have := HK.out; rw [List.drop_eq_nil_of_le (by rw [size_data]; omega), HDD.out] at this; simp [nDig] at this; omega
     subst hkd
     go_wp2_with fail
     rw [HT.out]
     refine (refNumber_any _ _ HTS.out).mono ?_
     rintro e w' ⟨rfl, rfl⟩
     rw [HRN.out]
     go_wp2_with fail
     rw [HRR.out]
     refine (refUnit_any 3 _ _).mono ?_
     rintro e w' ⟨rfl, rfl⟩
     rw [HU.out]
     go_wp2_with fail
     refine (refMost_any 3 _).mono ?_
     rintro e w' ⟨rfl, rfl⟩
     rw [show mostV 3 = 1125899906842624 from rfl]
     go_wp2
     exact bodyPost_ret (v := .tuple #[.agg #[.int .i64 0, .int .i64 0, .string ⟨#[]⟩, .slice none 0 0], .int .i64 41]) (by simp [results, Tryz.results71, go_sem]) rfl ⟨ret_val (by rw [HV.out]; rfl), (Below.refl _ _).alloc (Nat.le_refl _) _⟩
  ·have hCN : C = N := by rw [← hC]; exact cap_small (by omega)
   have hg2 : ¬ (1125899906842624 / u < (C : Int)) := by rw [hCN]; exact hg
   have hm := mul_le_of u1 (Int.not_lt.1 hg2)
   have hm0 : 0 ≤ (C : Int) * u := Int.mul_nonneg q1 hu0
   have d1 : decide (1125899906842624 / u < (C : Int)) = false := decide_eq_false hg2
   have d2 : decide ((1125899906842624 : Int).tdiv u < (C : Int)) = false := decide_eq_false (by rw [tdiv_of (by decide)]; exact hg2)
   have HV : Hid (intOk 3 (unitedV 3 s.data.toList) = (⟨3, (C : Int) * u, ⟨#[]⟩, []⟩, 0)) := Lib.hid (by rw [HW.out, if_neg hz, if_neg hg, hCN]; rfl)
   have hwr : IntKind.i64.wrap ((C : Int) * u) = (C : Int) * u := IntWalk.i64_in _ (by omega)
   clear hg hg2 hz hW hsp hdm hCN hd hT hr hN hC hok hu hX hY
   go_enter Tryz.func71, Tryz.ntmps71
   go_wp2
   go_loop [6] (fun i => ∃ k : Nat, i = .int .i64 k ∧ k ≤ s.size ∧ Hid (nDig s.data.toList = k + nDig (s.data.toList.drop k))) (fun i => s.size - (intOf i).toNat)
   case atStart => exact ⟨0, rfl, by omega, Lib.hid (by simp)⟩
   case round =>
    obtain ⟨k, rfl, hk, HK⟩ := hrel
    by_cases hlt : k < s.size
    ·have hat := nDig_at hlt
     have hb := byte_le s k hlt
     by_cases hdg : isD s[k] = true
     ·have HX : Hid (nDig s.data.toList = (k + 1) + nDig (s.data.toList.drop (k + 1))) := Lib.hid (by rw [HK.out, hat, if_pos hdg]; omega)
      obtain ⟨hd1, hd2⟩ : 48 ≤ s[k].toNat ∧ s[k].toNat ≤ 57 := by simpa [isD] using hdg
      have t1 : decide ((48 : Int) ≤ s[k].toNat) = true := decide_eq_true (by omega)
      have t2 : decide ((s[k].toNat : Int) ≤ 57) = true := decide_eq_true (by omega)
      clear hat hdg
      go_wp2
      go_round
      case rel => exact ⟨k + 1, by go_num, by omega, HX⟩
      case measure => simp [intOf]; omega
     ·have hkd : k = d := by have := HK.out; rw [hat, if_neg hdg, HDD.out] at this; omega
      have hno : s[k].toNat < 48 ∨ (48 ≤ s[k].toNat ∧ 57 < s[k].toNat) := by simp [isD] at hdg; omega
      clear hat hdg
      subst hkd
      rcases hno with h | ⟨h, h'⟩
      ·have t1 : decide ((48 : Int) ≤ s[k].toNat) = false := decide_eq_false (by omega)
       go_wp2_with fail
       rw [HT.out]
       refine (refNumber_any _ _ HTS.out).mono ?_
       rintro e w' ⟨rfl, rfl⟩
       rw [HRN.out]
       go_wp2_with fail
       rw [HRR.out]
       refine (refUnit_any 3 _ _).mono ?_
       rintro e w' ⟨rfl, rfl⟩
       rw [HU.out]
       go_wp2_with fail
       refine (refMost_any 3 _).mono ?_
       rintro e w' ⟨rfl, rfl⟩
       rw [show mostV 3 = 1125899906842624 from rfl]
       go_wp2
       exact bodyPost_ret (v := .tuple #[.agg #[.int .i64 3, .int .i64 ((C : Int) * u), .string ⟨#[]⟩, .slice none 0 0], .int .i64 0]) (by simp [results, Tryz.results71, go_sem]) rfl ⟨ret_val (by rw [HV.out]; rfl), (Below.refl _ _).alloc (Nat.le_refl _) _⟩
      ·have t1 : decide ((48 : Int) ≤ s[k].toNat) = true := decide_eq_true (by omega)
       have t2 : decide ((s[k].toNat : Int) ≤ 57) = false := decide_eq_false (by omega)
       go_wp2_with fail
       rw [HT.out]
       refine (refNumber_any _ _ HTS.out).mono ?_
       rintro e w' ⟨rfl, rfl⟩
       rw [HRN.out]
       go_wp2_with fail
       rw [HRR.out]
       refine (refUnit_any 3 _ _).mono ?_
       rintro e w' ⟨rfl, rfl⟩
       rw [HU.out]
       go_wp2_with fail
       refine (refMost_any 3 _).mono ?_
       rintro e w' ⟨rfl, rfl⟩
       rw [show mostV 3 = 1125899906842624 from rfl]
       go_wp2
       exact bodyPost_ret (v := .tuple #[.agg #[.int .i64 3, .int .i64 ((C : Int) * u), .string ⟨#[]⟩, .slice none 0 0], .int .i64 0]) (by simp [results, Tryz.results71, go_sem]) rfl ⟨ret_val (by rw [HV.out]; rfl), (Below.refl _ _).alloc (Nat.le_refl _) _⟩
    ·have hkd : k = d := by have := HK.out; rw [List.drop_eq_nil_of_le (by rw [size_data]; omega), HDD.out] at this; simp [nDig] at this; omega
     subst hkd
     go_wp2_with fail
     rw [HT.out]
     refine (refNumber_any _ _ HTS.out).mono ?_
     rintro e w' ⟨rfl, rfl⟩
     rw [HRN.out]
     go_wp2_with fail
     rw [HRR.out]
     refine (refUnit_any 3 _ _).mono ?_
     rintro e w' ⟨rfl, rfl⟩
     rw [HU.out]
     go_wp2_with fail
     refine (refMost_any 3 _).mono ?_
     rintro e w' ⟨rfl, rfl⟩
     rw [show mostV 3 = 1125899906842624 from rfl]
     go_wp2
     exact bodyPost_ret (v := .tuple #[.agg #[.int .i64 3, .int .i64 ((C : Int) * u), .string ⟨#[]⟩, .slice none 0 0], .int .i64 0]) (by simp [results, Tryz.results71, go_sem]) rfl ⟨ret_val (by rw [HV.out]; rfl), (Below.refl _ _).alloc (Nat.le_refl _) _⟩

set_option maxHeartbeats 1600000 in
set_option maxRecDepth 100000 in
theorem united4_any (s : ByteArray) (w : World) (hs : s.size ≤ maxLen) :
  Calls Tryz.prog 71 #[.int .i64 4, .string s] w fun e w' => e = .returned (numR (intOk 4 (unitedV 4 s.data.toList))) ∧ Below w.heap.size w w' := by
 unfold maxLen at hs
 obtain ⟨d, hd⟩ : ∃ d, nDig s.data.toList = d := ⟨_, rfl⟩
 have hdle := nDig_le s.data.toList
 rw [hd, size_data] at hdle
 have hX : (s.extract 0 d).data.toList = s.data.toList.takeWhile isD := by rw [Lib.extract_from_zero, ← hd, nDig_take]
 have hY : (s.extract d s.size).data.toList = s.data.toList.dropWhile isD := by rw [Lib.extract_to_end, ← hd, nDig_drop]
 obtain ⟨T, hT⟩ : ∃ T, s.extract 0 d = T := ⟨_, rfl⟩
 obtain ⟨r, hr⟩ : ∃ r, s.extract d s.size = r := ⟨_, rfl⟩
 rw [hT] at hX
 rw [hr] at hY
 have HT := Lib.hid hT
 have HRR := Lib.hid hr
 have HTS : Hid (T.size ≤ maxLen) := Lib.hid (by unfold maxLen; rw [← hT, ByteArray.size_extract]; omega)
 obtain ⟨N, hN⟩ : ∃ N, dec (s.data.toList.takeWhile isD) = N := ⟨_, rfl⟩
 obtain ⟨C, hC⟩ : ∃ C, capN N = C := ⟨_, rfl⟩
 have hCle : C ≤ 4611686018427387905 := by rw [← hC]; exact cap_le N
 obtain ⟨ok, hok⟩ : ∃ ok, numOkS s.data.toList = ok := ⟨_, rfl⟩
 have HRN : Hid (refNum T.data.toList = ((C : Int), ok)) := Lib.hid (by rw [hX, refNum_tw, hN, hC, hok])
 obtain ⟨u, hu⟩ : ∃ u, unitV 4 r.data.toList = u := ⟨_, rfl⟩
 have HU := Lib.hid hu
 have hub := unit_bd 4 r.data.toList
 rw [hu] at hub
 obtain ⟨hu0, hu1⟩ := hub
 have q1 : (0 : Int) ≤ C := by omega
 have q2 : (d : Int) ≤ s.size := by omega
 have q3 : (0 : Int) ≤ d := by omega
 have HDD : Hid (nDig s.data.toList = d) := Lib.hid hd
 cases ok with
 | false =>
  have h48 : (s.toList == [48]) = false := ne_text (fun h => by rw [h, one48] at hok; cases hok)
  have HV : Hid (intOk 4 (unitedV 4 s.data.toList) = (zeroV, 40)) := Lib.hid (by unfold unitedV; rw [if_pos (Or.inl (show numOk (s.data.toList.takeWhile isD) = false from hok))]; rfl)
  clear hd hT hr hN hC hok hu hX hY
  go_enter Tryz.func71, Tryz.ntmps71
  go_wp2
  go_loop [6] (fun i => ∃ k : Nat, i = .int .i64 k ∧ k ≤ s.size ∧ Hid (nDig s.data.toList = k + nDig (s.data.toList.drop k))) (fun i => s.size - (intOf i).toNat)
  case atStart => exact ⟨0, rfl, by omega, Lib.hid (by simp)⟩
  case round =>
   obtain ⟨k, rfl, hk, HK⟩ := hrel
   by_cases hlt : k < s.size
   ·have hat := nDig_at hlt
    have hb := byte_le s k hlt
    by_cases hdg : isD s[k] = true
    ·have HX : Hid (nDig s.data.toList = (k + 1) + nDig (s.data.toList.drop (k + 1))) := Lib.hid (by rw [HK.out, hat, if_pos hdg]; omega)
     obtain ⟨hd1, hd2⟩ : 48 ≤ s[k].toNat ∧ s[k].toNat ≤ 57 := by simpa [isD] using hdg
     have t1 : decide ((48 : Int) ≤ s[k].toNat) = true := decide_eq_true (by omega)
     have t2 : decide ((s[k].toNat : Int) ≤ 57) = true := decide_eq_true (by omega)
     clear hat hdg
     go_wp2
     go_round
     case rel => exact ⟨k + 1, by go_num, by omega, HX⟩
     case measure => simp [intOf]; omega
    ·have hkd : k = d := by have := HK.out; rw [hat, if_neg hdg, HDD.out] at this; omega
     have hno : s[k].toNat < 48 ∨ (48 ≤ s[k].toNat ∧ 57 < s[k].toNat) := by simp [isD] at hdg; omega
     clear hat hdg
     subst hkd
     rcases hno with h | ⟨h, h'⟩
     ·have t1 : decide ((48 : Int) ≤ s[k].toNat) = false := decide_eq_false (by omega)
      go_wp2_with fail
      rw [HT.out]
      refine (refNumber_any _ _ HTS.out).mono ?_
      rintro e w' ⟨rfl, rfl⟩
      rw [HRN.out]
      go_wp2_with fail
      rw [HRR.out]
      refine (refUnit_any 4 _ _).mono ?_
      rintro e w' ⟨rfl, rfl⟩
      rw [HU.out]
      go_wp2
      exact bodyPost_ret (v := .tuple #[.agg #[.int .i64 0, .int .i64 0, .string ⟨#[]⟩, .slice none 0 0], .int .i64 40]) (by simp [results, Tryz.results71, go_sem]) rfl ⟨ret_val (by rw [HV.out]; rfl), (Below.refl _ _).alloc (Nat.le_refl _) _⟩
     ·have t1 : decide ((48 : Int) ≤ s[k].toNat) = true := decide_eq_true (by omega)
      have t2 : decide ((s[k].toNat : Int) ≤ 57) = false := decide_eq_false (by omega)
      go_wp2_with fail
      rw [HT.out]
      refine (refNumber_any _ _ HTS.out).mono ?_
      rintro e w' ⟨rfl, rfl⟩
      rw [HRN.out]
      go_wp2_with fail
      rw [HRR.out]
      refine (refUnit_any 4 _ _).mono ?_
      rintro e w' ⟨rfl, rfl⟩
      rw [HU.out]
      go_wp2
      exact bodyPost_ret (v := .tuple #[.agg #[.int .i64 0, .int .i64 0, .string ⟨#[]⟩, .slice none 0 0], .int .i64 40]) (by simp [results, Tryz.results71, go_sem]) rfl ⟨ret_val (by rw [HV.out]; rfl), (Below.refl _ _).alloc (Nat.le_refl _) _⟩
   ·have hkd : k = d := by have := HK.out; rw [List.drop_eq_nil_of_le (by rw [size_data]; omega), HDD.out] at this; simp [nDig] at this; omega
    subst hkd
    go_wp2_with fail
    rw [HT.out]
    refine (refNumber_any _ _ HTS.out).mono ?_
    rintro e w' ⟨rfl, rfl⟩
    rw [HRN.out]
    go_wp2_with fail
    rw [HRR.out]
    refine (refUnit_any 4 _ _).mono ?_
    rintro e w' ⟨rfl, rfl⟩
    rw [HU.out]
    go_wp2
    exact bodyPost_ret (v := .tuple #[.agg #[.int .i64 0, .int .i64 0, .string ⟨#[]⟩, .slice none 0 0], .int .i64 40]) (by simp [results, Tryz.results71, go_sem]) rfl ⟨ret_val (by rw [HV.out]; rfl), (Below.refl _ _).alloc (Nat.le_refl _) _⟩
 | true =>
  by_cases h48 : s.data.toList = [48]
  ·have hsp : spanU 4 s.data.toList = 1 := by unfold spanU; rw [if_pos ⟨rfl, h48⟩]
   have hN0 : N = 0 := by rw [← hN, h48]; decide
   have hC0 : C = 0 := by rw [← hC, hN0]; decide
   have HV : Hid (intOk 4 (unitedV 4 s.data.toList) = (⟨4, 0, ⟨#[]⟩, []⟩, 0)) := Lib.hid (by
    unfold unitedV
    rw [hsp, hN, hN0, show numOk (s.data.toList.takeWhile isD) = true from hok]; rfl)
   have e48 : (s.toList == [48]) = true := by rw [toList_eq, h48]; rfl
   subst hC0
   clear hsp hN0 h48 hd hT hr hN hC hok hu hX hY
   go_enter Tryz.func71, Tryz.ntmps71
   go_wp2
   go_loop [6] (fun i => ∃ k : Nat, i = .int .i64 k ∧ k ≤ s.size ∧ Hid (nDig s.data.toList = k + nDig (s.data.toList.drop k))) (fun i => s.size - (intOf i).toNat)
   case atStart => exact ⟨0, rfl, by omega, Lib.hid (by simp)⟩
   case round =>
    obtain ⟨k, rfl, hk, HK⟩ := hrel
    by_cases hlt : k < s.size
    ·have hat := nDig_at hlt
     have hb := byte_le s k hlt
     by_cases hdg : isD s[k] = true
     ·have HX : Hid (nDig s.data.toList = (k + 1) + nDig (s.data.toList.drop (k + 1))) := Lib.hid (by rw [HK.out, hat, if_pos hdg]; omega)
      obtain ⟨hd1, hd2⟩ : 48 ≤ s[k].toNat ∧ s[k].toNat ≤ 57 := by simpa [isD] using hdg
      have t1 : decide ((48 : Int) ≤ s[k].toNat) = true := decide_eq_true (by omega)
      have t2 : decide ((s[k].toNat : Int) ≤ 57) = true := decide_eq_true (by omega)
      clear hat hdg
      go_wp2
      go_round
      case rel => exact ⟨k + 1, by go_num, by omega, HX⟩
      case measure => simp [intOf]; omega
     ·have hkd : k = d := by have := HK.out; rw [hat, if_neg hdg, HDD.out] at this; omega
      have hno : s[k].toNat < 48 ∨ (48 ≤ s[k].toNat ∧ 57 < s[k].toNat) := by simp [isD] at hdg; omega
      clear hat hdg
      subst hkd
      rcases hno with h | ⟨h, h'⟩
      ·have t1 : decide ((48 : Int) ≤ s[k].toNat) = false := decide_eq_false (by omega)
       go_wp2_with fail
       rw [HT.out]
       refine (refNumber_any _ _ HTS.out).mono ?_
       rintro e w' ⟨rfl, rfl⟩
       rw [HRN.out]
       go_wp2_with fail
       rw [HRR.out]
       refine (refUnit_any 4 _ _).mono ?_
       rintro e w' ⟨rfl, rfl⟩
       rw [HU.out]
       go_wp2_with fail
       refine (refMost_any 4 _).mono ?_
       rintro e w' ⟨rfl, rfl⟩
       rw [show mostV 4 = 1099511627776 from rfl]
       go_wp2
       exact bodyPost_ret (v := .tuple #[.agg #[.int .i64 4, .int .i64 0, .string ⟨#[]⟩, .slice none 0 0], .int .i64 0]) (by simp [results, Tryz.results71, go_sem]) rfl ⟨ret_val (by rw [HV.out]; rfl), (Below.refl _ _).alloc (Nat.le_refl _) _⟩
      ·have t1 : decide ((48 : Int) ≤ s[k].toNat) = true := decide_eq_true (by omega)
       have t2 : decide ((s[k].toNat : Int) ≤ 57) = false := decide_eq_false (by omega)
       go_wp2_with fail
       rw [HT.out]
       refine (refNumber_any _ _ HTS.out).mono ?_
       rintro e w' ⟨rfl, rfl⟩
       rw [HRN.out]
       go_wp2_with fail
       rw [HRR.out]
       refine (refUnit_any 4 _ _).mono ?_
       rintro e w' ⟨rfl, rfl⟩
       rw [HU.out]
       go_wp2_with fail
       refine (refMost_any 4 _).mono ?_
       rintro e w' ⟨rfl, rfl⟩
       rw [show mostV 4 = 1099511627776 from rfl]
       go_wp2
       exact bodyPost_ret (v := .tuple #[.agg #[.int .i64 4, .int .i64 0, .string ⟨#[]⟩, .slice none 0 0], .int .i64 0]) (by simp [results, Tryz.results71, go_sem]) rfl ⟨ret_val (by rw [HV.out]; rfl), (Below.refl _ _).alloc (Nat.le_refl _) _⟩
    ·have hkd : k = d := by have := HK.out; rw [List.drop_eq_nil_of_le (by rw [size_data]; omega), HDD.out] at this; simp [nDig] at this; omega
     subst hkd
     go_wp2_with fail
     rw [HT.out]
     refine (refNumber_any _ _ HTS.out).mono ?_
     rintro e w' ⟨rfl, rfl⟩
     rw [HRN.out]
     go_wp2_with fail
     rw [HRR.out]
     refine (refUnit_any 4 _ _).mono ?_
     rintro e w' ⟨rfl, rfl⟩
     rw [HU.out]
     go_wp2_with fail
     refine (refMost_any 4 _).mono ?_
     rintro e w' ⟨rfl, rfl⟩
     rw [show mostV 4 = 1099511627776 from rfl]
     go_wp2
     exact bodyPost_ret (v := .tuple #[.agg #[.int .i64 4, .int .i64 0, .string ⟨#[]⟩, .slice none 0 0], .int .i64 0]) (by simp [results, Tryz.results71, go_sem]) rfl ⟨ret_val (by rw [HV.out]; rfl), (Below.refl _ _).alloc (Nat.le_refl _) _⟩
  have e48 : (s.toList == [48]) = false := ne_text h48
  have hsp : spanU 4 s.data.toList = u := by unfold spanU; rw [if_neg (fun h => h48 h.2), ← hY, hu]
  have hW : unitedV 4 s.data.toList = if u = 0 then (0, 40) else if 1099511627776 / u < (N : Int) then (0, 41) else ((N : Int) * u, 0) := by
   unfold unitedV
   rw [hsp, hN, show numOk (s.data.toList.takeWhile isD) = true from hok]
   simp [mostV]
  have HW := Lib.hid hW
  by_cases hz : u = 0
  ·subst hz
   have HV : Hid (intOk 4 (unitedV 4 s.data.toList) = (zeroV, 40)) := Lib.hid (by rw [HW.out, if_pos rfl]; rfl)
   clear hW hsp hd hT hr hN hC hok hu hX hY h48
   go_enter Tryz.func71, Tryz.ntmps71
   go_wp2
   go_loop [6] (fun i => ∃ k : Nat, i = .int .i64 k ∧ k ≤ s.size ∧ Hid (nDig s.data.toList = k + nDig (s.data.toList.drop k))) (fun i => s.size - (intOf i).toNat)
   case atStart => exact ⟨0, rfl, by omega, Lib.hid (by simp)⟩
   case round =>
    obtain ⟨k, rfl, hk, HK⟩ := hrel
    by_cases hlt : k < s.size
    ·have hat := nDig_at hlt
     have hb := byte_le s k hlt
     by_cases hdg : isD s[k] = true
     ·have HX : Hid (nDig s.data.toList = (k + 1) + nDig (s.data.toList.drop (k + 1))) := Lib.hid (by rw [HK.out, hat, if_pos hdg]; omega)
      obtain ⟨hd1, hd2⟩ : 48 ≤ s[k].toNat ∧ s[k].toNat ≤ 57 := by simpa [isD] using hdg
      have t1 : decide ((48 : Int) ≤ s[k].toNat) = true := decide_eq_true (by omega)
      have t2 : decide ((s[k].toNat : Int) ≤ 57) = true := decide_eq_true (by omega)
      clear hat hdg
      go_wp2
      go_round
      case rel => exact ⟨k + 1, by go_num, by omega, HX⟩
      case measure => simp [intOf]; omega
     ·have hkd : k = d := by have := HK.out; rw [hat, if_neg hdg, HDD.out] at this; omega
      have hno : s[k].toNat < 48 ∨ (48 ≤ s[k].toNat ∧ 57 < s[k].toNat) := by simp [isD] at hdg; omega
      clear hat hdg
      subst hkd
      rcases hno with h | ⟨h, h'⟩
      ·have t1 : decide ((48 : Int) ≤ s[k].toNat) = false := decide_eq_false (by omega)
       go_wp2_with fail
       rw [HT.out]
       refine (refNumber_any _ _ HTS.out).mono ?_
       rintro e w' ⟨rfl, rfl⟩
       rw [HRN.out]
       go_wp2_with fail
       rw [HRR.out]
       refine (refUnit_any 4 _ _).mono ?_
       rintro e w' ⟨rfl, rfl⟩
       rw [HU.out]
       go_wp2
       exact bodyPost_ret (v := .tuple #[.agg #[.int .i64 0, .int .i64 0, .string ⟨#[]⟩, .slice none 0 0], .int .i64 40]) (by simp [results, Tryz.results71, go_sem]) rfl ⟨ret_val (by rw [HV.out]; rfl), (Below.refl _ _).alloc (Nat.le_refl _) _⟩
      ·have t1 : decide ((48 : Int) ≤ s[k].toNat) = true := decide_eq_true (by omega)
       have t2 : decide ((s[k].toNat : Int) ≤ 57) = false := decide_eq_false (by omega)
       go_wp2_with fail
       rw [HT.out]
       refine (refNumber_any _ _ HTS.out).mono ?_
       rintro e w' ⟨rfl, rfl⟩
       rw [HRN.out]
       go_wp2_with fail
       rw [HRR.out]
       refine (refUnit_any 4 _ _).mono ?_
       rintro e w' ⟨rfl, rfl⟩
       rw [HU.out]
       go_wp2
       exact bodyPost_ret (v := .tuple #[.agg #[.int .i64 0, .int .i64 0, .string ⟨#[]⟩, .slice none 0 0], .int .i64 40]) (by simp [results, Tryz.results71, go_sem]) rfl ⟨ret_val (by rw [HV.out]; rfl), (Below.refl _ _).alloc (Nat.le_refl _) _⟩
    ·have hkd : k = d := by have := HK.out; rw [List.drop_eq_nil_of_le (by rw [size_data]; omega), HDD.out] at this; simp [nDig] at this; omega
     subst hkd
     go_wp2_with fail
     rw [HT.out]
     refine (refNumber_any _ _ HTS.out).mono ?_
     rintro e w' ⟨rfl, rfl⟩
     rw [HRN.out]
     go_wp2_with fail
     rw [HRR.out]
     refine (refUnit_any 4 _ _).mono ?_
     rintro e w' ⟨rfl, rfl⟩
     rw [HU.out]
     go_wp2
     exact bodyPost_ret (v := .tuple #[.agg #[.int .i64 0, .int .i64 0, .string ⟨#[]⟩, .slice none 0 0], .int .i64 40]) (by simp [results, Tryz.results71, go_sem]) rfl ⟨ret_val (by rw [HV.out]; rfl), (Below.refl _ _).alloc (Nat.le_refl _) _⟩
  have e0 : (u == 0) = false := beq_eq_false_iff_ne.2 hz
  have u1 : 1 ≤ u := by omega
  have hdm := div_le_self' (m := 1099511627776) (u := u) (by decide)
  by_cases hg : 1099511627776 / u < (N : Int)
  ·have hg2 : 1099511627776 / u < (C : Int) := by
    rcases Nat.lt_or_ge N 4611686018427387905 with h | h
    ·rw [← hC, cap_small (by omega)]; exact hg
    ·rw [← hC, cap_big h]; omega
   have d1 : decide (1099511627776 / u < (C : Int)) = true := decide_eq_true hg2
   have d2 : decide ((1099511627776 : Int).tdiv u < (C : Int)) = true := decide_eq_true (by rw [tdiv_of (by decide)]; exact hg2)
   have HV : Hid (intOk 4 (unitedV 4 s.data.toList) = (zeroV, 41)) := Lib.hid (by rw [HW.out, if_neg hz, if_pos hg]; rfl)
   clear hg hg2 hz hW hsp hdm hd hT hr hN hC hok hu hX hY h48
   go_enter Tryz.func71, Tryz.ntmps71
   go_wp2
   go_loop [6] (fun i => ∃ k : Nat, i = .int .i64 k ∧ k ≤ s.size ∧ Hid (nDig s.data.toList = k + nDig (s.data.toList.drop k))) (fun i => s.size - (intOf i).toNat)
   case atStart => exact ⟨0, rfl, by omega, Lib.hid (by simp)⟩
   case round =>
    obtain ⟨k, rfl, hk, HK⟩ := hrel
    by_cases hlt : k < s.size
    ·have hat := nDig_at hlt
     have hb := byte_le s k hlt
     by_cases hdg : isD s[k] = true
     ·have HX : Hid (nDig s.data.toList = (k + 1) + nDig (s.data.toList.drop (k + 1))) := Lib.hid (by rw [HK.out, hat, if_pos hdg]; omega)
      obtain ⟨hd1, hd2⟩ : 48 ≤ s[k].toNat ∧ s[k].toNat ≤ 57 := by simpa [isD] using hdg
      have t1 : decide ((48 : Int) ≤ s[k].toNat) = true := decide_eq_true (by omega)
      have t2 : decide ((s[k].toNat : Int) ≤ 57) = true := decide_eq_true (by omega)
      clear hat hdg
      go_wp2
      go_round
      case rel => exact ⟨k + 1, by go_num, by omega, HX⟩
      case measure => simp [intOf]; omega
     ·have hkd : k = d := by have := HK.out; rw [hat, if_neg hdg, HDD.out] at this; omega
      have hno : s[k].toNat < 48 ∨ (48 ≤ s[k].toNat ∧ 57 < s[k].toNat) := by simp [isD] at hdg; omega
      clear hat hdg
      subst hkd
      rcases hno with h | ⟨h, h'⟩
      ·have t1 : decide ((48 : Int) ≤ s[k].toNat) = false := decide_eq_false (by omega)
       go_wp2_with fail
       rw [HT.out]
       refine (refNumber_any _ _ HTS.out).mono ?_
       rintro e w' ⟨rfl, rfl⟩
       rw [HRN.out]
       go_wp2_with fail
       rw [HRR.out]
       refine (refUnit_any 4 _ _).mono ?_
       rintro e w' ⟨rfl, rfl⟩
       rw [HU.out]
       go_wp2_with fail
       refine (refMost_any 4 _).mono ?_
       rintro e w' ⟨rfl, rfl⟩
       rw [show mostV 4 = 1099511627776 from rfl]
       go_wp2
       exact bodyPost_ret (v := .tuple #[.agg #[.int .i64 0, .int .i64 0, .string ⟨#[]⟩, .slice none 0 0], .int .i64 41]) (by simp [results, Tryz.results71, go_sem]) rfl ⟨ret_val (by rw [HV.out]; rfl), (Below.refl _ _).alloc (Nat.le_refl _) _⟩
      ·have t1 : decide ((48 : Int) ≤ s[k].toNat) = true := decide_eq_true (by omega)
       have t2 : decide ((s[k].toNat : Int) ≤ 57) = false := decide_eq_false (by omega)
       go_wp2_with fail
       rw [HT.out]
       refine (refNumber_any _ _ HTS.out).mono ?_
       rintro e w' ⟨rfl, rfl⟩
       rw [HRN.out]
       go_wp2_with fail
       rw [HRR.out]
       refine (refUnit_any 4 _ _).mono ?_
       rintro e w' ⟨rfl, rfl⟩
       rw [HU.out]
       go_wp2_with fail
       refine (refMost_any 4 _).mono ?_
       rintro e w' ⟨rfl, rfl⟩
       rw [show mostV 4 = 1099511627776 from rfl]
       go_wp2
       exact bodyPost_ret (v := .tuple #[.agg #[.int .i64 0, .int .i64 0, .string ⟨#[]⟩, .slice none 0 0], .int .i64 41]) (by simp [results, Tryz.results71, go_sem]) rfl ⟨ret_val (by rw [HV.out]; rfl), (Below.refl _ _).alloc (Nat.le_refl _) _⟩
    ·have hkd : k = d := by have := HK.out; rw [List.drop_eq_nil_of_le (by rw [size_data]; omega), HDD.out] at this; simp [nDig] at this; omega
     subst hkd
     go_wp2_with fail
     rw [HT.out]
     refine (refNumber_any _ _ HTS.out).mono ?_
     rintro e w' ⟨rfl, rfl⟩
     rw [HRN.out]
     go_wp2_with fail
     rw [HRR.out]
     refine (refUnit_any 4 _ _).mono ?_
     rintro e w' ⟨rfl, rfl⟩
     rw [HU.out]
     go_wp2_with fail
     refine (refMost_any 4 _).mono ?_
     rintro e w' ⟨rfl, rfl⟩
     rw [show mostV 4 = 1099511627776 from rfl]
     go_wp2
     exact bodyPost_ret (v := .tuple #[.agg #[.int .i64 0, .int .i64 0, .string ⟨#[]⟩, .slice none 0 0], .int .i64 41]) (by simp [results, Tryz.results71, go_sem]) rfl ⟨ret_val (by rw [HV.out]; rfl), (Below.refl _ _).alloc (Nat.le_refl _) _⟩
  ·have hCN : C = N := by rw [← hC]; exact cap_small (by omega)
   have hg2 : ¬ (1099511627776 / u < (C : Int)) := by rw [hCN]; exact hg
   have hm := mul_le_of u1 (Int.not_lt.1 hg2)
   have hm0 : 0 ≤ (C : Int) * u := Int.mul_nonneg q1 hu0
   have d1 : decide (1099511627776 / u < (C : Int)) = false := decide_eq_false hg2
   have d2 : decide ((1099511627776 : Int).tdiv u < (C : Int)) = false := decide_eq_false (by rw [tdiv_of (by decide)]; exact hg2)
   have HV : Hid (intOk 4 (unitedV 4 s.data.toList) = (⟨4, (C : Int) * u, ⟨#[]⟩, []⟩, 0)) := Lib.hid (by rw [HW.out, if_neg hz, if_neg hg, hCN]; rfl)
   have hwr : IntKind.i64.wrap ((C : Int) * u) = (C : Int) * u := IntWalk.i64_in _ (by omega)
   clear hg hg2 hz hW hsp hdm hCN hd hT hr hN hC hok hu hX hY h48
   go_enter Tryz.func71, Tryz.ntmps71
   go_wp2
   go_loop [6] (fun i => ∃ k : Nat, i = .int .i64 k ∧ k ≤ s.size ∧ Hid (nDig s.data.toList = k + nDig (s.data.toList.drop k))) (fun i => s.size - (intOf i).toNat)
   case atStart => exact ⟨0, rfl, by omega, Lib.hid (by simp)⟩
   case round =>
    obtain ⟨k, rfl, hk, HK⟩ := hrel
    by_cases hlt : k < s.size
    ·have hat := nDig_at hlt
     have hb := byte_le s k hlt
     by_cases hdg : isD s[k] = true
     ·have HX : Hid (nDig s.data.toList = (k + 1) + nDig (s.data.toList.drop (k + 1))) := Lib.hid (by rw [HK.out, hat, if_pos hdg]; omega)
      obtain ⟨hd1, hd2⟩ : 48 ≤ s[k].toNat ∧ s[k].toNat ≤ 57 := by simpa [isD] using hdg
      have t1 : decide ((48 : Int) ≤ s[k].toNat) = true := decide_eq_true (by omega)
      have t2 : decide ((s[k].toNat : Int) ≤ 57) = true := decide_eq_true (by omega)
      clear hat hdg
      go_wp2
      go_round
      case rel => exact ⟨k + 1, by go_num, by omega, HX⟩
      case measure => simp [intOf]; omega
     ·have hkd : k = d := by have := HK.out; rw [hat, if_neg hdg, HDD.out] at this; omega
      have hno : s[k].toNat < 48 ∨ (48 ≤ s[k].toNat ∧ 57 < s[k].toNat) := by simp [isD] at hdg; omega
      clear hat hdg
      subst hkd
      rcases hno with h | ⟨h, h'⟩
      ·have t1 : decide ((48 : Int) ≤ s[k].toNat) = false := decide_eq_false (by omega)
       go_wp2_with fail
       rw [HT.out]
       refine (refNumber_any _ _ HTS.out).mono ?_
       rintro e w' ⟨rfl, rfl⟩
       rw [HRN.out]
       go_wp2_with fail
       rw [HRR.out]
       refine (refUnit_any 4 _ _).mono ?_
       rintro e w' ⟨rfl, rfl⟩
       rw [HU.out]
       go_wp2_with fail
       refine (refMost_any 4 _).mono ?_
       rintro e w' ⟨rfl, rfl⟩
       rw [show mostV 4 = 1099511627776 from rfl]
       go_wp2
       exact bodyPost_ret (v := .tuple #[.agg #[.int .i64 4, .int .i64 ((C : Int) * u), .string ⟨#[]⟩, .slice none 0 0], .int .i64 0]) (by simp [results, Tryz.results71, go_sem]) rfl ⟨ret_val (by rw [HV.out]; rfl), (Below.refl _ _).alloc (Nat.le_refl _) _⟩
      ·have t1 : decide ((48 : Int) ≤ s[k].toNat) = true := decide_eq_true (by omega)
       have t2 : decide ((s[k].toNat : Int) ≤ 57) = false := decide_eq_false (by omega)
       go_wp2_with fail
       rw [HT.out]
       refine (refNumber_any _ _ HTS.out).mono ?_
       rintro e w' ⟨rfl, rfl⟩
       rw [HRN.out]
       go_wp2_with fail
       rw [HRR.out]
       refine (refUnit_any 4 _ _).mono ?_
       rintro e w' ⟨rfl, rfl⟩
       rw [HU.out]
       go_wp2_with fail
       refine (refMost_any 4 _).mono ?_
       rintro e w' ⟨rfl, rfl⟩
       rw [show mostV 4 = 1099511627776 from rfl]
       go_wp2
       exact bodyPost_ret (v := .tuple #[.agg #[.int .i64 4, .int .i64 ((C : Int) * u), .string ⟨#[]⟩, .slice none 0 0], .int .i64 0]) (by simp [results, Tryz.results71, go_sem]) rfl ⟨ret_val (by rw [HV.out]; rfl), (Below.refl _ _).alloc (Nat.le_refl _) _⟩
    ·have hkd : k = d := by have := HK.out; rw [List.drop_eq_nil_of_le (by rw [size_data]; omega), HDD.out] at this; simp [nDig] at this; omega
     subst hkd
     go_wp2_with fail
     rw [HT.out]
     refine (refNumber_any _ _ HTS.out).mono ?_
     rintro e w' ⟨rfl, rfl⟩
     rw [HRN.out]
     go_wp2_with fail
     rw [HRR.out]
     refine (refUnit_any 4 _ _).mono ?_
     rintro e w' ⟨rfl, rfl⟩
     rw [HU.out]
     go_wp2_with fail
     refine (refMost_any 4 _).mono ?_
     rintro e w' ⟨rfl, rfl⟩
     rw [show mostV 4 = 1099511627776 from rfl]
     go_wp2
     exact bodyPost_ret (v := .tuple #[.agg #[.int .i64 4, .int .i64 ((C : Int) * u), .string ⟨#[]⟩, .slice none 0 0], .int .i64 0]) (by simp [results, Tryz.results71, go_sem]) rfl ⟨ret_val (by rw [HV.out]; rfl), (Below.refl _ _).alloc (Nat.le_refl _) _⟩

theorem allText_at {s : ByteArray} {k : Nat} (h : k < s.size) (hp : allText (s.data.toList.take k) = true) : (printB s[k].toNat = false → allText s.data.toList = false) ∧ (printB s[k].toNat = true → allText (s.data.toList.take (k + 1)) = true) := by
 have e : s.data.toList.take (k + 1) = s.data.toList.take k ++ [s[k]] := by
  rw [List.take_succ_eq_append_getElem (by simpa using h)]; rfl
 constructor
 ·intro hc
  cases hq : allText s.data.toList with
  | false => rfl
  | true =>
   have hm : s[k] ∈ s.data.toList := by simp [ByteArray.getElem_eq_getElem_data]
   have := List.all_eq_true.1 hq _ hm
   rw [hc] at this; cases this
 ·intro hc
  unfold allText at hp ⊢
  rw [e, List.all_append, hp]; simp [hc]

set_option maxHeartbeats 800000 in
set_option maxRecDepth 100000 in
theorem refText_any (s : ByteArray) (w : World) (hs : s.size ≤ maxLen) :
  Calls Tryz.prog 72 #[.string s] w fun e w' => e = .returned (numR (textR s)) ∧ Below w.heap.size w w' := by
 unfold maxLen at hs
 have HC := Lib.hid (textV_cases s)
 go_enter Tryz.func72, Tryz.ntmps72
 go_wp2
 go_loop [4] (fun i => ∃ k : Nat, i = .int .i64 k ∧ k ≤ s.size ∧ Hid (allText (s.data.toList.take k) = true)) (fun i => s.size - (intOf i).toNat)
 case atStart => exact ⟨0, rfl, by omega, Lib.hid rfl⟩
 case round =>
  obtain ⟨k, rfl, hk, HK⟩ := hrel
  by_cases hlt : k < s.size
  ·obtain ⟨h1, h2⟩ := allText_at hlt HK.out
   have hb := byte_le s k hlt
   by_cases hp : printB s[k].toNat = true
   ·have HX := Lib.hid (h2 hp)
    obtain ⟨hd1, hd2⟩ : 32 ≤ s[k].toNat ∧ s[k].toNat ≤ 126 := by simp [printB] at hp; omega
    have t1 : decide ((s[k].toNat : Int) < 32) = false := decide_eq_false (by omega)
    have t2 : decide (126 < (s[k].toNat : Int)) = false := decide_eq_false (by omega)
    clear h1 h2 hp
    go_wp2
    go_round
    case rel => exact ⟨k + 1, by go_num, by omega, HX⟩
    case measure => simp [intOf]; omega
   ·have hA := h1 (by simpa using hp)
    have HV : Hid (textR s = (zeroV, 40)) := Lib.hid (by unfold textR textV; rw [hA]; rfl)
    have hno : s[k].toNat < 32 ∨ (32 ≤ s[k].toNat ∧ 126 < s[k].toNat) := by simp [printB] at hp; omega
    clear h1 h2 hp hA
    rcases hno with h | ⟨h, h'⟩
    ·have t1 : decide ((s[k].toNat : Int) < 32) = true := decide_eq_true (by omega)
     go_wp2
     exact bodyPost_ret (v := .tuple #[.agg #[.int .i64 0, .int .i64 0, .string ⟨#[]⟩, .slice none 0 0], .int .i64 40]) (by simp [results, Tryz.results72, go_sem]) rfl ⟨ret_val (by rw [HV.out]; rfl), (Below.refl _ _).alloc (Nat.le_refl _) _⟩
    ·have t1 : decide ((s[k].toNat : Int) < 32) = false := decide_eq_false (by omega)
     have t2 : decide (126 < (s[k].toNat : Int)) = true := decide_eq_true (by omega)
     go_wp2
     exact bodyPost_ret (v := .tuple #[.agg #[.int .i64 0, .int .i64 0, .string ⟨#[]⟩, .slice none 0 0], .int .i64 40]) (by simp [results, Tryz.results72, go_sem]) rfl ⟨ret_val (by rw [HV.out]; rfl), (Below.refl _ _).alloc (Nat.le_refl _) _⟩
  ·have hA : allText s.data.toList = true := by have := HK.out; rwa [List.take_of_length_le (by rw [size_data]; omega)] at this
   have hcs := HC.out
   rw [hA] at hcs
   rcases hcs with ⟨h, _⟩ | ⟨_, hl, hv⟩ | ⟨_, hl, hv⟩
   ·cases h
   ·have HV : Hid (textR s = (zeroV, 42)) := Lib.hid (by unfold textR; rw [hv]; rfl)
    have t1 : decide (200 < (s.size : Int)) = true := decide_eq_true (by omega)
    clear hA hv
    go_wp2
    exact bodyPost_ret (v := .tuple #[.agg #[.int .i64 0, .int .i64 0, .string ⟨#[]⟩, .slice none 0 0], .int .i64 42]) (by simp [results, Tryz.results72, go_sem]) rfl ⟨ret_val (by rw [HV.out]; rfl), (Below.refl _ _).alloc (Nat.le_refl _) _⟩
   ·have HV : Hid (textR s = (⟨5, 0, s, []⟩, 0)) := Lib.hid (by unfold textR; rw [hv]; rfl)
    have t1 : decide (200 < (s.size : Int)) = false := decide_eq_false (by omega)
    clear hA hv
    go_wp2
    exact bodyPost_ret (v := .tuple #[.agg #[.int .i64 5, .int .i64 0, .string s, .slice none 0 0], .int .i64 0]) (by simp [results, Tryz.results72, go_sem]) rfl ⟨ret_val (by rw [HV.out]; rfl), (Below.refl _ _).alloc (Nat.le_refl _) _⟩
end Go.Proofs.YtlcgfdijohgnpaaGreatDoor
