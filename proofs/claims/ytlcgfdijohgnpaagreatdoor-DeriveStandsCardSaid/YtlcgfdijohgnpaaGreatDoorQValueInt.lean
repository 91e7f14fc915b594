/-
  ValueInt.
-/
import Derived.Test.YtlcgfdijohgnpaaGreatDoorQValueBox
namespace Go.Proofs.YtlcgfdijohgnpaaGreatDoor
open Go.ChangeShapes Go.WideShapes Go.ChangeAt Go.RowKit

theorem takeWhile_self {l : List UInt8} (h : l.all isD = true) : l.takeWhile isD = l ∧ l.dropWhile isD = [] := by
 induction l with
 | nil => exact ⟨rfl, rfl⟩
 | cons c r ih =>
  simp only [List.all_cons, Bool.and_eq_true] at h
  obtain ⟨h1, h2⟩ := ih h.2
  exact ⟨by rw [takeWhile_cons_yes h.1, h1], by simp [List.dropWhile, h.1, h2]⟩
theorem take_drop_while (l : List UInt8) : l.takeWhile isD ++ l.dropWhile isD = l := List.takeWhile_append_dropWhile
theorem numOk_all {l : List UInt8} (h : numOk l = true) : l.all isD = true := by
 unfold numOk at h; simp only [Bool.and_eq_true] at h; exact h.1
theorem numOk_split (l : List UInt8) : numOk l = true ↔ numOkS l = true ∧ l.dropWhile isD = [] := by
 constructor
 ·intro h
  obtain ⟨h1, h2⟩ := takeWhile_self (numOk_all h)
  exact ⟨by unfold numOkS; rw [h1]; exact h, h2⟩
 ·rintro ⟨h1, h2⟩
  have := take_drop_while l
  rw [h2, List.append_nil] at this
  unfold numOkS at h1; rw [this] at h1; exact h1
theorem numOk_no {l : List UInt8} (h : ¬ (numOkS l = true ∧ l.dropWhile isD = [])) : numOk l = false := by
 cases hq : numOk l with
 | false => rfl
 | true => exact absurd ((numOk_split l).1 hq) h
theorem cap_zero {n : Nat} : capN n = 0 ↔ n = 0 := by unfold capN bigN; omega
theorem cap_great {n : Nat} : 4611686018427387904 < capN n ↔ 4611686018427387904 < n := by unfold capN bigN; omega
theorem drop_one_size (s : ByteArray) : (unsg s.data.toList).length ≤ s.size := by
 unfold unsg; split
 ·rw [List.length_drop]; simp
 ·simp
theorem mkB_size (l : List UInt8) : (mkB l).size = l.length := by unfold mkB; simp [ByteArray.size]

set_option maxHeartbeats 1600000 in
set_option maxRecDepth 100000 in
theorem parseInt_any (s : ByteArray) (w : World) (hT : Tab w) (hs : s.size ≤ maxLen) :
  Calls Tryz.prog 96 #[.string s] w fun e w' => e = .returned (numR (intOk 2 (wholeV s.data.toList))) ∧ Below w.heap.size w w' := by
 obtain ⟨T, hTe⟩ : ∃ T, mkB (unsg s.data.toList) = T := ⟨_, rfl⟩
 have hTd : unsg s.data.toList = T.data.toList := by rw [← hTe, mkB_data]
 have hTs : Hid (T.size ≤ maxLen) := Lib.hid (by rw [← hTe, mkB_size]; exact Nat.le_trans (drop_one_size s) hs)
 have HTE := Lib.hid hTe
 have hb0 : Hid (∀ o, Below w.heap.size w (w.alloc o) ∧ Tab (w.alloc o)) := Lib.hid fun o => ⟨(Below.refl _ _).alloc (Nat.le_refl _) o, hT.below ((Below.refl _ _).alloc (Nat.le_refl _) o)⟩
 obtain ⟨ng, hng⟩ : ∃ ng, negOf s.data.toList = ng := ⟨_, rfl⟩
 have HNG := Lib.hid hng
 have HW : Hid (wholeV s.data.toList = if numOk T.data.toList = false ∨ (ng = true ∧ dec T.data.toList = 0) then (0, 40) else if 4611686018427387904 < dec T.data.toList then (0, 41) else ((if ng then -(dec T.data.toList : Int) else (dec T.data.toList : Int)), 0)) := Lib.hid (by unfold wholeV; rw [hTd, hng])
 clear hTe hTd hng hs hT
 cases hok : numOkS T.data.toList with
 | false =>
  have HV : Hid (intOk 2 (wholeV s.data.toList) = (zeroV, 40)) := Lib.hid (by rw [HW.out, if_pos (Or.inl (numOk_no (by simp [hok])))]; rfl)
  have HOK := Lib.hid hok
  clear hok HW
  go_enter Tryz.func96, Tryz.ntmps96
  go_wp2_with fail
  refine (cut_any _ _).mono ?_
  rintro e w' ⟨rfl, rfl⟩
  rw [HTE.out, HNG.out]
  go_wp2_with fail
  refine (number_no T _ (hb0.out _).2 hTs.out HOK.out).mono ?_
  rintro e w1 ⟨rfl, hb⟩
  have HZ : zero4 w1 w.heap.size := (box4_new w _ _ _ _ _).below hb
  have HZZ := Lib.hid (HZ.last ((hb0.out _).1.trans (hb.mono (hb0.out _).1.size)) (Nat.le_refl _))
  clear hb
  obtain ⟨c0, c1, c2, c3, z0, z1, z2, z3⟩ := HZ
  obtain ⟨g0, g1, g2, g3, hB4⟩ := HZZ.out (.int .i64 0) (.int .i64 0) (.string ⟨#[]⟩) (.slice none 0 0)
  have HB := Lib.hid hB4
  clear hB4
  go_wp2
  exact bodyPost_ret (v := .tuple #[.agg #[.int .i64 0, .int .i64 0, .string ⟨#[]⟩, .slice none 0 0], .int .i64 40]) (by simp [results, Tryz.results96, go_sem, g0, g1, g2, g3]) rfl ⟨ret_val (by rw [HV.out]; rfl), HB.out⟩
 | true =>
  have HOK := Lib.hid hok
  clear hok
  obtain ⟨r, hr⟩ : ∃ r, r = mkB (T.data.toList.dropWhile isD) := ⟨_, rfl⟩
  have HR := Lib.hid hr
  by_cases hd : T.data.toList.dropWhile isD = []
  ·have hr0 : r = ⟨#[]⟩ := by rw [hr, hd]; rfl
   subst hr0
   clear hr
   have HNO : Hid (numOk T.data.toList = true) := Lib.hid ((numOk_split _).2 ⟨HOK.out, hd⟩)
   have HTK : Hid (T.data.toList.takeWhile isD = T.data.toList) := Lib.hid (takeWhile_self (numOk_all HNO.out)).1
   clear hd
   obtain ⟨N, hN⟩ : ∃ N, dec T.data.toList = N := ⟨_, rfl⟩
   have HN := Lib.hid hN
   have HW2 : Hid (wholeV s.data.toList = if (ng = true ∧ N = 0) then (0, 40) else if 4611686018427387904 < N then (0, 41) else ((if ng then -(N : Int) else (N : Int)), 0)) := Lib.hid (by rw [HW.out, HNO.out, hN]; simp)
   clear hN HW
   obtain ⟨C, hC⟩ : ∃ C, capN N = C := ⟨_, rfl⟩
   have hCle : C ≤ 4611686018427387905 := by rw [← hC]; exact cap_le N
   have HC := Lib.hid hC
   have q1 : (0 : Int) ≤ C := by omega
   by_cases hz : N = 0
   ·have hC0 : C = 0 := by rw [← hC]; exact cap_zero.2 hz
    subst hC0 hz
    clear hC q1 hCle
    cases ng with
    | true =>
     have HV : Hid (intOk 2 (wholeV s.data.toList) = (zeroV, 40)) := Lib.hid (by rw [HW2.out]; rfl)
     go_enter Tryz.func96, Tryz.ntmps96
     go_wp2_with fail
     refine (cut_any _ _).mono ?_
     rintro e w' ⟨rfl, rfl⟩
     rw [HTE.out, HNG.out]
     go_wp2_with fail
     refine (number_yes T ⟨#[]⟩ _ (hb0.out _).2 hTs.out HOK.out HR.out).mono ?_
     rintro e w1 ⟨rfl, hb⟩
     rw [HTK.out, HN.out, HC.out]
     have HZ : zero4 w1 w.heap.size := (box4_new w _ _ _ _ _).below hb
     have HZZ := Lib.hid (HZ.last ((hb0.out _).1.trans (hb.mono (hb0.out _).1.size)) (Nat.le_refl _))
     clear hb
     obtain ⟨c0, c1, c2, c3, z0, z1, z2, z3⟩ := HZ
     obtain ⟨g0, g1, g2, g3, hB4⟩ := HZZ.out (.int .i64 0) (.int .i64 0) (.string ⟨#[]⟩) (.slice none 0 0)
     have HB := Lib.hid hB4
     clear hB4
     go_wp2
     exact bodyPost_ret (v := .tuple #[.agg #[.int .i64 0, .int .i64 0, .string ⟨#[]⟩, .slice none 0 0], .int .i64 40]) (by simp [results, Tryz.results96, go_sem, g0, g1, g2, g3]) rfl ⟨ret_val (by rw [HV.out]; rfl), HB.out⟩
    | false =>
     have HV : Hid (intOk 2 (wholeV s.data.toList) = (⟨2, 0, ⟨#[]⟩, []⟩, 0)) := Lib.hid (by rw [HW2.out]; rfl)
     go_enter Tryz.func96, Tryz.ntmps96
     go_wp2_with fail
     refine (cut_any _ _).mono ?_
     rintro e w' ⟨rfl, rfl⟩
     rw [HTE.out, HNG.out]
     go_wp2_with fail
     refine (number_yes T ⟨#[]⟩ _ (hb0.out _).2 hTs.out HOK.out HR.out).mono ?_
     rintro e w1 ⟨rfl, hb⟩
     rw [HTK.out, HN.out, HC.out]
     have HZ : zero4 w1 w.heap.size := (box4_new w _ _ _ _ _).below hb
     have HZZ := Lib.hid (HZ.last ((hb0.out _).1.trans (hb.mono (hb0.out _).1.size)) (Nat.le_refl _))
     clear hb
     obtain ⟨c0, c1, c2, c3, z0, z1, z2, z3⟩ := HZ
     obtain ⟨g0, g1, g2, g3, hB4⟩ := HZZ.out (.int .i64 2) (.int .i64 0) (.string ⟨#[]⟩) (.slice none 0 0)
     have HB := Lib.hid hB4
     clear hB4
     go_wp2
     exact bodyPost_ret (v := .tuple #[.agg #[.int .i64 2, .int .i64 0, .string ⟨#[]⟩, .slice none 0 0], .int .i64 0]) (by simp [results, Tryz.results96, go_sem, g0, g1, g2, g3]) rfl ⟨ret_val (by rw [HV.out]; rfl), HB.out⟩
   ·have d1 : ((C : Int) == 0) = false := beq_eq_false_iff_ne.2 (fun h => hz (cap_zero.1 (by rw [hC]; omega)))
    by_cases hg : 4611686018427387904 < N
    ·have d2 : decide (4611686018427387904 < (C : Int)) = true := decide_eq_true (by have := cap_great.2 hg; rw [hC] at this; omega)
     have HV : Hid (intOk 2 (wholeV s.data.toList) = (zeroV, 41)) := Lib.hid (by rw [HW2.out, if_neg (fun h => hz h.2), if_pos hg]; rfl)
     clear hC hg hz hCle
     cases ng with
     | true =>
      go_enter Tryz.func96, Tryz.ntmps96
      go_wp2_with fail
      refine (cut_any _ _).mono ?_
      rintro e w' ⟨rfl, rfl⟩
      rw [HTE.out, HNG.out]
      go_wp2_with fail
      refine (number_yes T ⟨#[]⟩ _ (hb0.out _).2 hTs.out HOK.out HR.out).mono ?_
      rintro e w1 ⟨rfl, hb⟩
      rw [HTK.out, HN.out, HC.out]
      have HZ : zero4 w1 w.heap.size := (box4_new w _ _ _ _ _).below hb
      have HZZ := Lib.hid (HZ.last ((hb0.out _).1.trans (hb.mono (hb0.out _).1.size)) (Nat.le_refl _))
      clear hb
      obtain ⟨c0, c1, c2, c3, z0, z1, z2, z3⟩ := HZ
      obtain ⟨g0, g1, g2, g3, hB4⟩ := HZZ.out (.int .i64 0) (.int .i64 0) (.string ⟨#[]⟩) (.slice none 0 0)
      have HB := Lib.hid hB4
      clear hB4
      go_wp2
      exact bodyPost_ret (v := .tuple #[.agg #[.int .i64 0, .int .i64 0, .string ⟨#[]⟩, .slice none 0 0], .int .i64 41]) (by simp [results, Tryz.results96, go_sem, g0, g1, g2, g3]) rfl ⟨ret_val (by rw [HV.out]; rfl), HB.out⟩
     | false =>
      go_enter Tryz.func96, Tryz.ntmps96
      go_wp2_with fail
      refine (cut_any _ _).mono ?_
      rintro e w' ⟨rfl, rfl⟩
      rw [HTE.out, HNG.out]
      go_wp2_with fail
      refine (number_yes T ⟨#[]⟩ _ (hb0.out _).2 hTs.out HOK.out HR.out).mono ?_
      rintro e w1 ⟨rfl, hb⟩
      rw [HTK.out, HN.out, HC.out]
      have HZ : zero4 w1 w.heap.size := (box4_new w _ _ _ _ _).below hb
      have HZZ := Lib.hid (HZ.last ((hb0.out _).1.trans (hb.mono (hb0.out _).1.size)) (Nat.le_refl _))
      clear hb
      obtain ⟨c0, c1, c2, c3, z0, z1, z2, z3⟩ := HZ
      obtain ⟨g0, g1, g2, g3, hB4⟩ := HZZ.out (.int .i64 0) (.int .i64 0) (.string ⟨#[]⟩) (.slice none 0 0)
      have HB := Lib.hid hB4
      clear hB4
      go_wp2
      exact bodyPost_ret (v := .tuple #[.agg #[.int .i64 0, .int .i64 0, .string ⟨#[]⟩, .slice none 0 0], .int .i64 41]) (by simp [results, Tryz.results96, go_sem, g0, g1, g2, g3]) rfl ⟨ret_val (by rw [HV.out]; rfl), HB.out⟩
    ·have hCN : C = N := by rw [← hC]; exact cap_small (by omega)
     subst hCN
     have d2 : decide (4611686018427387904 < (C : Int)) = false := decide_eq_false (by omega)
     have hC2 : (C : Int) ≤ 4611686018427387904 := by omega
     cases ng with
     | true =>
      have HV : Hid (intOk 2 (wholeV s.data.toList) = (⟨2, -(C : Int), ⟨#[]⟩, []⟩, 0)) := Lib.hid (by rw [HW2.out, if_neg (fun h => hz h.2), if_neg hg]; rfl)
      clear hC hg hz hCle
      go_enter Tryz.func96, Tryz.ntmps96
      go_wp2_with fail
      refine (cut_any _ _).mono ?_
      rintro e w' ⟨rfl, rfl⟩
      rw [HTE.out, HNG.out]
      go_wp2_with fail
      refine (number_yes T ⟨#[]⟩ _ (hb0.out _).2 hTs.out HOK.out HR.out).mono ?_
      rintro e w1 ⟨rfl, hb⟩
      rw [HTK.out, HN.out, HC.out]
      have HZ : zero4 w1 w.heap.size := (box4_new w _ _ _ _ _).below hb
      have HZZ := Lib.hid (HZ.last ((hb0.out _).1.trans (hb.mono (hb0.out _).1.size)) (Nat.le_refl _))
      clear hb
      obtain ⟨c0, c1, c2, c3, z0, z1, z2, z3⟩ := HZ
      obtain ⟨g0, g1, g2, g3, hB4⟩ := HZZ.out (.int .i64 2) (.int .i64 (-(C : Int))) (.string ⟨#[]⟩) (.slice none 0 0)
      have HB := Lib.hid hB4
      clear hB4
      go_wp2
      exact bodyPost_ret (v := .tuple #[.agg #[.int .i64 2, .int .i64 (-(C : Int)), .string ⟨#[]⟩, .slice none 0 0], .int .i64 0]) (by simp [results, Tryz.results96, go_sem, g0, g1, g2, g3]) rfl ⟨ret_val (by rw [HV.out]; rfl), HB.out⟩
     | false =>
      have HV : Hid (intOk 2 (wholeV s.data.toList) = (⟨2, (C : Int), ⟨#[]⟩, []⟩, 0)) := Lib.hid (by rw [HW2.out, if_neg (fun h => hz h.2), if_neg hg]; rfl)
      clear hC hg hz hCle
      go_enter Tryz.func96, Tryz.ntmps96
      go_wp2_with fail
      refine (cut_any _ _).mono ?_
      rintro e w' ⟨rfl, rfl⟩
      rw [HTE.out, HNG.out]
      go_wp2_with fail
      refine (number_yes T ⟨#[]⟩ _ (hb0.out _).2 hTs.out HOK.out HR.out).mono ?_
      rintro e w1 ⟨rfl, hb⟩
      rw [HTK.out, HN.out, HC.out]
      have HZ : zero4 w1 w.heap.size := (box4_new w _ _ _ _ _).below hb
      have HZZ := Lib.hid (HZ.last ((hb0.out _).1.trans (hb.mono (hb0.out _).1.size)) (Nat.le_refl _))
      clear hb
      obtain ⟨c0, c1, c2, c3, z0, z1, z2, z3⟩ := HZ
      obtain ⟨g0, g1, g2, g3, hB4⟩ := HZZ.out (.int .i64 2) (.int .i64 (C : Int)) (.string ⟨#[]⟩) (.slice none 0 0)
      have HB := Lib.hid hB4
      clear hB4
      go_wp2
      exact bodyPost_ret (v := .tuple #[.agg #[.int .i64 2, .int .i64 (C : Int), .string ⟨#[]⟩, .slice none 0 0], .int .i64 0]) (by simp [results, Tryz.results96, go_sem, g0, g1, g2, g3]) rfl ⟨ret_val (by rw [HV.out]; rfl), HB.out⟩
  ·have hr1 : (r.toList == []) = false := by rw [toList_eq, hr, mkB_data]; exact beq_eq_false_iff_ne.2 hd
   have hr2 : r.toList.isEmpty = false := by
    cases hq : r.toList with
    | nil => rw [hq] at hr1; cases hr1
    | cons a b => rfl
   have HV : Hid (intOk 2 (wholeV s.data.toList) = (zeroV, 40)) := Lib.hid (by rw [HW.out, if_pos (Or.inl (numOk_no (fun h => hd h.2)))]; rfl)
   clear hr hd HW
   go_enter Tryz.func96, Tryz.ntmps96
   go_wp2_with fail
   refine (cut_any _ _).mono ?_
   rintro e w' ⟨rfl, rfl⟩
   rw [HTE.out, HNG.out]
   go_wp2_with fail
   refine (number_yes T r _ (hb0.out _).2 hTs.out HOK.out HR.out).mono ?_
   rintro e w1 ⟨rfl, hb⟩
   have HZ : zero4 w1 w.heap.size := (box4_new w _ _ _ _ _).below hb
   have HZZ := Lib.hid (HZ.last ((hb0.out _).1.trans (hb.mono (hb0.out _).1.size)) (Nat.le_refl _))
   clear hb
   obtain ⟨c0, c1, c2, c3, z0, z1, z2, z3⟩ := HZ
   obtain ⟨g0, g1, g2, g3, hB4⟩ := HZZ.out (.int .i64 0) (.int .i64 0) (.string ⟨#[]⟩) (.slice none 0 0)
   have HB := Lib.hid hB4
   clear hB4
   go_wp2
   exact bodyPost_ret (v := .tuple #[.agg #[.int .i64 0, .int .i64 0, .string ⟨#[]⟩, .slice none 0 0], .int .i64 40]) (by simp [results, Tryz.results96, go_sem, g0, g1, g2, g3]) rfl ⟨ret_val (by rw [HV.out]; rfl), HB.out⟩
end Go.Proofs.YtlcgfdijohgnpaaGreatDoor
