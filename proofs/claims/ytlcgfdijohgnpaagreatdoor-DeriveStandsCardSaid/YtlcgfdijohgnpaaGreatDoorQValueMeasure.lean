/-
  ValueMeasure.
-/
import Derived.Test.YtlcgfdijohgnpaaGreatDoorQValueInt
namespace Go.Proofs.YtlcgfdijohgnpaaGreatDoor
open Go.ChangeShapes Go.WideShapes Go.ChangeAt Go.RowKit

theorem bounds3 (w : World) : Calls Tryz.prog 130 #[.int .i64 3] w fun e w' => e = .returned (.tuple #[.int .i64 0, .int .i64 1125899906842624]) ∧ w = w' :=
 (bounds_any 3 w).mono fun _ _ ⟨h, hw⟩ => ⟨h, hw⟩
theorem bounds4 (w : World) : Calls Tryz.prog 130 #[.int .i64 4] w fun e w' => e = .returned (.tuple #[.int .i64 0, .int .i64 1099511627776]) ∧ w = w' :=
 (bounds_any 4 w).mono fun _ _ ⟨h, hw⟩ => ⟨h, hw⟩
theorem dw_data {T : ByteArray} {r : ByteArray} (h : r = mkB (T.data.toList.dropWhile isD)) : r.data.toList = T.data.toList.dropWhile isD := by rw [h, mkB_data]
theorem mul_le_of {a u m : Int} (hu : 1 ≤ u) (h : a ≤ m / u) : a * u ≤ m := by
 have h1 := Int.mul_le_mul_of_nonneg_right h (show (0 : Int) ≤ u by omega)
 have h2 := Int.ediv_mul_le m (show u ≠ 0 by omega)
 omega
theorem tdiv_of {m u : Int} (hm : 0 ≤ m) : m.tdiv u = m / u := Int.tdiv_eq_ediv_of_nonneg hm
theorem div_le_self' {m u : Int} (hm : 0 ≤ m) : m / u ≤ m := Int.ediv_le_self u hm
theorem one48 : numOkS [48] = true := by decide

set_option maxHeartbeats 1600000 in
set_option maxRecDepth 100000 in
theorem measure3_any (s : ByteArray) (w : World) (hT : Tab w) (hU : Units w) (hs : s.size ≤ maxLen) :
  Calls Tryz.prog 97 #[.int .i64 3, .string s] w fun e w' => e = .returned (numR (intOk 3 (unitedV 3 s.data.toList))) ∧ Below w.heap.size w w' := by
 have hb0 : Hid (∀ t, Below w.heap.size w (w.alloc (.cells #[.int .i64 0, .int .i64 0, .string ⟨#[]⟩, .slice none 0 0] t)) ∧ Tab (w.alloc (.cells #[.int .i64 0, .int .i64 0, .string ⟨#[]⟩, .slice none 0 0] t))) := Lib.hid fun t => ⟨(Below.refl _ _).alloc (Nat.le_refl _) _, hT.below ((Below.refl _ _).alloc (Nat.le_refl _) _)⟩
 have HU := Lib.hid hU
 have HS := Lib.hid hs
 clear hs hT hU
 cases hok : numOkS s.data.toList with
 | false =>
  have HV : Hid (intOk 3 (unitedV 3 s.data.toList) = (zeroV, 40)) := Lib.hid (by unfold unitedV; rw [if_pos (Or.inl (show numOk (s.data.toList.takeWhile isD) = false from hok))]; rfl)
  have h48 : (s.toList == [48]) = false := ne_text (fun h => by rw [h, one48] at hok; cases hok)
  have HOK := Lib.hid hok
  clear hok
  obtain ⟨u, hu⟩ : ∃ u, unitV 3 (⟨#[]⟩ : ByteArray).data.toList = u := ⟨_, rfl⟩
  have HUV := Lib.hid hu
  clear hu
  go_enter Tryz.func97, Tryz.ntmps97
  go_wp2_with fail
  refine (number_no s _ (hb0.out _).2 HS.out HOK.out).mono ?_
  rintro e w1 ⟨rfl, hb⟩
  have hB1 := (hb0.out 37).1.trans (hb.mono (hb0.out 37).1.size)
  have hZ1 : zero4 w1 w.heap.size := (box4_new w _ _ _ _ _).below hb
  have HB1 := Lib.hid hB1
  have HZ1 := Lib.hid hZ1
  clear hb hB1 hZ1
  go_wp2_with fail
  refine (unit_any 3 ⟨#[]⟩ _ (HU.out.below HB1.out)).mono ?_
  rintro e w2 ⟨rfl, hb2⟩
  rw [HUV.out]
  have HZ : zero4 w2 w.heap.size := HZ1.out.below hb2
  have HZZ := Lib.hid (HZ.last (HB1.out.trans (hb2.mono HB1.out.size)) (Nat.le_refl _))
  clear hb2 HB1 HZ1
  go_wp2_with fail
  refine (bounds3 _).mono ?_
  rintro e w' ⟨rfl, rfl⟩
  obtain ⟨c0, c1, c2, c3, z0, z1, z2, z3⟩ := HZ
  obtain ⟨g0, g1, g2, g3, hB4⟩ := HZZ.out (.int .i64 0) (.int .i64 0) (.string ⟨#[]⟩) (.slice none 0 0)
  have HB := Lib.hid hB4
  clear hB4
  go_wp2
  exact bodyPost_ret (v := .tuple #[.agg #[.int .i64 0, .int .i64 0, .string ⟨#[]⟩, .slice none 0 0], .int .i64 40]) (by simp [results, Tryz.results97, go_sem, g0, g1, g2, g3]) rfl ⟨ret_val (by rw [HV.out]; rfl), HB.out⟩
 | true =>
  have HOK := Lib.hid hok
  clear hok
  obtain ⟨r, hr⟩ : ∃ r, r = mkB (s.data.toList.dropWhile isD) := ⟨_, rfl⟩
  have hrd := dw_data hr
  have HR := Lib.hid hr
  obtain ⟨u, hu⟩ : ∃ u, unitV 3 r.data.toList = u := ⟨_, rfl⟩
  have HUV := Lib.hid hu
  obtain ⟨N, hN⟩ : ∃ N, dec (s.data.toList.takeWhile isD) = N := ⟨_, rfl⟩
  have HN := Lib.hid hN
  obtain ⟨C, hC⟩ : ∃ C, capN N = C := ⟨_, rfl⟩
  have hCle : C ≤ 4611686018427387905 := by rw [← hC]; exact cap_le N
  have HC := Lib.hid hC
  have q1 : (0 : Int) ≤ C := by omega
  have hub := unit_bd 3 r.data.toList
  rw [hu] at hub
  obtain ⟨hu0, hu1⟩ := hub
  have hsp : spanU 3 s.data.toList = u := by unfold spanU; rw [if_neg (by intro h; exact absurd h.1 (by decide)), ← hrd, hu]
  have hW : unitedV 3 s.data.toList = if u = 0 then (0, 40) else if 1125899906842624 / u < (N : Int) then (0, 41) else ((N : Int) * u, 0) := by
   unfold unitedV
   rw [hsp, hN, show numOk (s.data.toList.takeWhile isD) = true from HOK.out]
   simp [mostV]
  have HW := Lib.hid hW
  clear hW hsp hN hrd hr hu
  by_cases hz : u = 0
  ·subst hz
   have HV : Hid (intOk 3 (unitedV 3 s.data.toList) = (zeroV, 40)) := Lib.hid (by rw [HW.out, if_pos rfl]; rfl)
   clear hu0 hu1 HW hC hCle q1
   go_enter Tryz.func97, Tryz.ntmps97
   go_wp2_with fail
   refine (number_yes s r _ (hb0.out _).2 HS.out HOK.out HR.out).mono ?_
   rintro e w1 ⟨rfl, hb⟩
   rw [HN.out, HC.out]
   have hB1 := (hb0.out 37).1.trans (hb.mono (hb0.out 37).1.size)
   have hZ1 : zero4 w1 w.heap.size := (box4_new w _ _ _ _ _).below hb
   have HB1 := Lib.hid hB1
   have HZ1 := Lib.hid hZ1
   clear hb hB1 hZ1
   go_wp2_with fail
   refine (unit_any 3 r _ (HU.out.below HB1.out)).mono ?_
   rintro e w2 ⟨rfl, hb2⟩
   rw [HUV.out]
   have HZ : zero4 w2 w.heap.size := HZ1.out.below hb2
   have HZZ := Lib.hid (HZ.last (HB1.out.trans (hb2.mono HB1.out.size)) (Nat.le_refl _))
   clear hb2 HB1 HZ1
   go_wp2_with fail
   refine (bounds3 _).mono ?_
   rintro e w' ⟨rfl, rfl⟩
   obtain ⟨c0, c1, c2, c3, z0, z1, z2, z3⟩ := HZ
   obtain ⟨g0, g1, g2, g3, hB4⟩ := HZZ.out (.int .i64 0) (.int .i64 0) (.string ⟨#[]⟩) (.slice none 0 0)
   have HB := Lib.hid hB4
   clear hB4
   go_wp2
   exact bodyPost_ret (v := .tuple #[.agg #[.int .i64 0, .int .i64 0, .string ⟨#[]⟩, .slice none 0 0], .int .i64 40]) (by simp [results, Tryz.results97, go_sem, g0, g1, g2, g3]) rfl ⟨ret_val (by rw [HV.out]; rfl), HB.out⟩
  have e0 : (u == 0) = false := beq_eq_false_iff_ne.2 hz
  have u1 : 1 ≤ u := by omega
  have hdm := div_le_self' (m := 1125899906842624) (u := u) (by decide)
  by_cases hg : 1125899906842624 / u < (N : Int)
  ·have hg2 : 1125899906842624 / u < (C : Int) := by
    rcases Nat.lt_or_ge N 4611686018427387905 with h | h
    ·rw [← hC, cap_small (by omega)]; exact hg
    ·rw [← hC, cap_big h]; omega
   have d1 : decide (1125899906842624 / u < (C : Int)) = true := decide_eq_true hg2
   have d2 : decide ((1125899906842624 : Int).tdiv u < (C : Int)) = true := decide_eq_true (by rw [tdiv_of (by decide)]; exact hg2)
   have HV : Hid (intOk 3 (unitedV 3 s.data.toList) = (zeroV, 41)) := Lib.hid (by rw [HW.out, if_neg hz, if_pos hg]; rfl)
   clear hz hg hg2 HW hC hdm
   go_enter Tryz.func97, Tryz.ntmps97
   go_wp2_with fail
   refine (number_yes s r _ (hb0.out _).2 HS.out HOK.out HR.out).mono ?_
   rintro e w1 ⟨rfl, hb⟩
   rw [HN.out, HC.out]
   have hB1 := (hb0.out 37).1.trans (hb.mono (hb0.out 37).1.size)
   have hZ1 : zero4 w1 w.heap.size := (box4_new w _ _ _ _ _).below hb
   have HB1 := Lib.hid hB1
   have HZ1 := Lib.hid hZ1
   clear hb hB1 hZ1
   go_wp2_with fail
   refine (unit_any 3 r _ (HU.out.below HB1.out)).mono ?_
   rintro e w2 ⟨rfl, hb2⟩
   rw [HUV.out]
   have HZ : zero4 w2 w.heap.size := HZ1.out.below hb2
   have HZZ := Lib.hid (HZ.last (HB1.out.trans (hb2.mono HB1.out.size)) (Nat.le_refl _))
   clear hb2 HB1 HZ1
   go_wp2_with fail
   refine (bounds3 _).mono ?_
   rintro e w' ⟨rfl, rfl⟩
   obtain ⟨c0, c1, c2, c3, z0, z1, z2, z3⟩ := HZ
   obtain ⟨g0, g1, g2, g3, hB4⟩ := HZZ.out (.int .i64 0) (.int .i64 0) (.string ⟨#[]⟩) (.slice none 0 0)
   have HB := Lib.hid hB4
   clear hB4
   go_wp2
   exact bodyPost_ret (v := .tuple #[.agg #[.int .i64 0, .int .i64 0, .string ⟨#[]⟩, .slice none 0 0], .int .i64 41]) (by simp [results, Tryz.results97, go_sem, g0, g1, g2, g3]) rfl ⟨ret_val (by rw [HV.out]; rfl), HB.out⟩
  ·have hCN : C = N := by rw [← hC]; exact cap_small (by omega)
   subst hCN
   have hm := mul_le_of u1 (Int.not_lt.1 hg)
   have hm0 : 0 ≤ (C : Int) * u := Int.mul_nonneg q1 hu0
   have d1 : decide (1125899906842624 / u < (C : Int)) = false := decide_eq_false hg
   have d2 : decide ((1125899906842624 : Int).tdiv u < (C : Int)) = false := decide_eq_false (by rw [tdiv_of (by decide)]; exact hg)
   have HV : Hid (intOk 3 (unitedV 3 s.data.toList) = (⟨3, (C : Int) * u, ⟨#[]⟩, []⟩, 0)) := Lib.hid (by rw [HW.out, if_neg hz, if_neg hg]; rfl)
   have hwr : IntKind.i64.wrap ((C : Int) * u) = (C : Int) * u := IntWalk.i64_in _ (by omega)
   clear hz hg HW hC hdm
   go_enter Tryz.func97, Tryz.ntmps97
   go_wp2_with fail
   refine (number_yes s r _ (hb0.out _).2 HS.out HOK.out HR.out).mono ?_
   rintro e w1 ⟨rfl, hb⟩
   rw [HN.out, HC.out]
   have hB1 := (hb0.out 37).1.trans (hb.mono (hb0.out 37).1.size)
   have hZ1 : zero4 w1 w.heap.size := (box4_new w _ _ _ _ _).below hb
   have HB1 := Lib.hid hB1
   have HZ1 := Lib.hid hZ1
   clear hb hB1 hZ1
   go_wp2_with fail
   refine (unit_any 3 r _ (HU.out.below HB1.out)).mono ?_
   rintro e w2 ⟨rfl, hb2⟩
   rw [HUV.out]
   have HZ : zero4 w2 w.heap.size := HZ1.out.below hb2
   have HZZ := Lib.hid (HZ.last (HB1.out.trans (hb2.mono HB1.out.size)) (Nat.le_refl _))
   clear hb2 HB1 HZ1
   go_wp2_with fail
   refine (bounds3 _).mono ?_
   rintro e w' ⟨rfl, rfl⟩
   obtain ⟨c0, c1, c2, c3, z0, z1, z2, z3⟩ := HZ
   obtain ⟨g0, g1, g2, g3, hB4⟩ := HZZ.out (.int .i64 3) (.int .i64 ((C : Int) * u)) (.string ⟨#[]⟩) (.slice none 0 0)
   have HB := Lib.hid hB4
   clear hB4
   go_wp2
   exact bodyPost_ret (v := .tuple #[.agg #[.int .i64 3, .int .i64 ((C : Int) * u), .string ⟨#[]⟩, .slice none 0 0], .int .i64 0]) (by simp [results, Tryz.results97, go_sem, g0, g1, g2, g3]) rfl ⟨ret_val (by rw [HV.out]; rfl), HB.out⟩

set_option maxHeartbeats 1600000 in
set_option maxRecDepth 100000 in
theorem measure4_any (s : ByteArray) (w : World) (hT : Tab w) (hU : Units w) (hs : s.size ≤ maxLen) :
  Calls Tryz.prog 97 #[.int .i64 4, .string s] w fun e w' => e = .returned (numR (intOk 4 (unitedV 4 s.data.toList))) ∧ Below w.heap.size w w' := by
 have hb0 : Hid (∀ t, Below w.heap.size w (w.alloc (.cells #[.int .i64 0, .int .i64 0, .string ⟨#[]⟩, .slice none 0 0] t)) ∧ Tab (w.alloc (.cells #[.int .i64 0, .int .i64 0, .string ⟨#[]⟩, .slice none 0 0] t))) := Lib.hid fun t => ⟨(Below.refl _ _).alloc (Nat.le_refl _) _, hT.below ((Below.refl _ _).alloc (Nat.le_refl _) _)⟩
 have HU := Lib.hid hU
 have HS := Lib.hid hs
 clear hs hT hU
 cases hok : numOkS s.data.toList with
 | false =>
  have HV : Hid (intOk 4 (unitedV 4 s.data.toList) = (zeroV, 40)) := Lib.hid (by unfold unitedV; rw [if_pos (Or.inl (show numOk (s.data.toList.takeWhile isD) = false from hok))]; rfl)
  have h48 : (s.toList == [48]) = false := ne_text (fun h => by rw [h, one48] at hok; cases hok)
  have HOK := Lib.hid hok
  clear hok
  obtain ⟨u, hu⟩ : ∃ u, unitV 4 (⟨#[]⟩ : ByteArray).data.toList = u := ⟨_, rfl⟩
  have HUV := Lib.hid hu
  clear hu
  go_enter Tryz.func97, Tryz.ntmps97
  go_wp2_with fail
  refine (number_no s _ (hb0.out _).2 HS.out HOK.out).mono ?_
  rintro e w1 ⟨rfl, hb⟩
  have hB1 := (hb0.out 37).1.trans (hb.mono (hb0.out 37).1.size)
  have hZ1 : zero4 w1 w.heap.size := (box4_new w _ _ _ _ _).below hb
  have HB1 := Lib.hid hB1
  have HZ1 := Lib.hid hZ1
  clear hb hB1 hZ1
  go_wp2_with fail
  refine (unit_any 4 ⟨#[]⟩ _ (HU.out.below HB1.out)).mono ?_
  rintro e w2 ⟨rfl, hb2⟩
  rw [HUV.out]
  have HZ : zero4 w2 w.heap.size := HZ1.out.below hb2
  have HZZ := Lib.hid (HZ.last (HB1.out.trans (hb2.mono HB1.out.size)) (Nat.le_refl _))
  clear hb2 HB1 HZ1
  go_wp2_with fail
  refine (bounds4 _).mono ?_
  rintro e w' ⟨rfl, rfl⟩
  obtain ⟨c0, c1, c2, c3, z0, z1, z2, z3⟩ := HZ
  obtain ⟨g0, g1, g2, g3, hB4⟩ := HZZ.out (.int .i64 0) (.int .i64 0) (.string ⟨#[]⟩) (.slice none 0 0)
  have HB := Lib.hid hB4
  clear hB4
  go_wp2
  exact bodyPost_ret (v := .tuple #[.agg #[.int .i64 0, .int .i64 0, .string ⟨#[]⟩, .slice none 0 0], .int .i64 40]) (by simp [results, Tryz.results97, go_sem, g0, g1, g2, g3]) rfl ⟨ret_val (by rw [HV.out]; rfl), HB.out⟩
 | true =>
  have HOK := Lib.hid hok
  clear hok
  obtain ⟨r, hr⟩ : ∃ r, r = mkB (s.data.toList.dropWhile isD) := ⟨_, rfl⟩
  have hrd := dw_data hr
  have HR := Lib.hid hr
  obtain ⟨u, hu⟩ : ∃ u, unitV 4 r.data.toList = u := ⟨_, rfl⟩
  have HUV := Lib.hid hu
  obtain ⟨N, hN⟩ : ∃ N, dec (s.data.toList.takeWhile isD) = N := ⟨_, rfl⟩
  have HN := Lib.hid hN
  obtain ⟨C, hC⟩ : ∃ C, capN N = C := ⟨_, rfl⟩
  have hCle : C ≤ 4611686018427387905 := by rw [← hC]; exact cap_le N
  have HC := Lib.hid hC
  have q1 : (0 : Int) ≤ C := by omega
  have hub := unit_bd 4 r.data.toList
  rw [hu] at hub
  obtain ⟨hu0, hu1⟩ := hub
  by_cases h48 : s.data.toList = [48]
  ·have hsp : spanU 4 s.data.toList = 1 := by unfold spanU; rw [if_pos ⟨rfl, h48⟩]
   have hN0 : N = 0 := by rw [← hN, h48]; decide
   have hC0 : C = 0 := by rw [← hC, hN0]; decide
   have HV : Hid (intOk 4 (unitedV 4 s.data.toList) = (⟨4, 0, ⟨#[]⟩, []⟩, 0)) := Lib.hid (by
    unfold unitedV
    rw [hsp, hN, hN0, show numOk (s.data.toList.takeWhile isD) = true from HOK.out]; rfl)
   have e48 : (s.toList == [48]) = true := by rw [toList_eq, h48]; rfl
   subst hC0
   clear hsp hN hC h48 hrd hr hu hCle q1 hN0
   go_enter Tryz.func97, Tryz.ntmps97
   go_wp2_with fail
   refine (number_yes s r _ (hb0.out _).2 HS.out HOK.out HR.out).mono ?_
   rintro e w1 ⟨rfl, hb⟩
   rw [HN.out, HC.out]
   have hB1 := (hb0.out 37).1.trans (hb.mono (hb0.out 37).1.size)
   have hZ1 : zero4 w1 w.heap.size := (box4_new w _ _ _ _ _).below hb
   have HB1 := Lib.hid hB1
   have HZ1 := Lib.hid hZ1
   clear hb hB1 hZ1
   go_wp2_with fail
   refine (unit_any 4 r _ (HU.out.below HB1.out)).mono ?_
   rintro e w2 ⟨rfl, hb2⟩
   rw [HUV.out]
   have HZ : zero4 w2 w.heap.size := HZ1.out.below hb2
   have HZZ := Lib.hid (HZ.last (HB1.out.trans (hb2.mono HB1.out.size)) (Nat.le_refl _))
   clear hb2 HB1 HZ1
   go_wp2_with fail
   refine (bounds4 _).mono ?_
   rintro e w' ⟨rfl, rfl⟩
   obtain ⟨c0, c1, c2, c3, z0, z1, z2, z3⟩ := HZ
   obtain ⟨g0, g1, g2, g3, hB4⟩ := HZZ.out (.int .i64 4) (.int .i64 0) (.string ⟨#[]⟩) (.slice none 0 0)
   have HB := Lib.hid hB4
   clear hB4
   go_wp2
   exact bodyPost_ret (v := .tuple #[.agg #[.int .i64 4, .int .i64 0, .string ⟨#[]⟩, .slice none 0 0], .int .i64 0]) (by simp [results, Tryz.results97, go_sem, g0, g1, g2, g3]) rfl ⟨ret_val (by rw [HV.out]; rfl), HB.out⟩
  have e48 : (s.toList == [48]) = false := ne_text h48
  have hsp : spanU 4 s.data.toList = u := by unfold spanU; rw [if_neg (fun h => h48 h.2), ← hrd, hu]
  have hW : unitedV 4 s.data.toList = if u = 0 then (0, 40) else if 1099511627776 / u < (N : Int) then (0, 41) else ((N : Int) * u, 0) := by
   unfold unitedV
   rw [hsp, hN, show numOk (s.data.toList.takeWhile isD) = true from HOK.out]
   simp [mostV]
  have HW := Lib.hid hW
  clear hW hsp hN hrd hr hu h48
  by_cases hz : u = 0
  ·subst hz
   have HV : Hid (intOk 4 (unitedV 4 s.data.toList) = (zeroV, 40)) := Lib.hid (by rw [HW.out, if_pos rfl]; rfl)
   clear hu0 hu1 HW hC hCle q1
   go_enter Tryz.func97, Tryz.ntmps97
   go_wp2_with fail
   refine (number_yes s r _ (hb0.out _).2 HS.out HOK.out HR.out).mono ?_
   rintro e w1 ⟨rfl, hb⟩
   rw [HN.out, HC.out]
   have hB1 := (hb0.out 37).1.trans (hb.mono (hb0.out 37).1.size)
   have hZ1 : zero4 w1 w.heap.size := (box4_new w _ _ _ _ _).below hb
   have HB1 := Lib.hid hB1
   have HZ1 := Lib.hid hZ1
   clear hb hB1 hZ1
   go_wp2_with fail
   refine (unit_any 4 r _ (HU.out.below HB1.out)).mono ?_
   rintro e w2 ⟨rfl, hb2⟩
   rw [HUV.out]
   have HZ : zero4 w2 w.heap.size := HZ1.out.below hb2
   have HZZ := Lib.hid (HZ.last (HB1.out.trans (hb2.mono HB1.out.size)) (Nat.le_refl _))
   clear hb2 HB1 HZ1
   go_wp2_with fail
   refine (bounds4 _).mono ?_
   rintro e w' ⟨rfl, rfl⟩
   obtain ⟨c0, c1, c2, c3, z0, z1, z2, z3⟩ := HZ
   obtain ⟨g0, g1, g2, g3, hB4⟩ := HZZ.out (.int .i64 0) (.int .i64 0) (.string ⟨#[]⟩) (.slice none 0 0)
   have HB := Lib.hid hB4
   clear hB4
   go_wp2
   exact bodyPost_ret (v := .tuple #[.agg #[.int .i64 0, .int .i64 0, .string ⟨#[]⟩, .slice none 0 0], .int .i64 40]) (by simp [results, Tryz.results97, go_sem, g0, g1, g2, g3]) rfl ⟨ret_val (by rw [HV.out]; rfl), HB.out⟩
  have e0 : (u == 0) = false := beq_eq_false_iff_ne.2 hz
  have u1 : 1 ≤ u := by omega
  have hdm := div_le_self' (m := 1099511627776) (u := u) (by decide)
  by_cases hg : 1099511627776 / u < (N : Int)
  ·have hg2 : 1099511627776 / u < (C : Int) := by
    rcases Nat.lt_or_ge N 4611686018427387905 with h | h
    ·rw [← hC, cap_small (by omega)]; exact hg
    ·rw [← hC, cap_big h]; omega
   have d1 : decide (1099511627776 / u < (C : Int)) = true := decide_eq_true hg2
   have d2 : decide ((1099511627776 : Int).tdiv u < (C : Int)) = true := decide_eq_true (by rw [tdiv_of (by decide)]; exact hg2)
   have HV : Hid (intOk 4 (unitedV 4 s.data.toList) = (zeroV, 41)) := Lib.hid (by rw [HW.out, if_neg hz, if_pos hg]; rfl)
   clear hz hg hg2 HW hC hdm
   go_enter Tryz.func97, Tryz.ntmps97
   go_wp2_with fail
   refine (number_yes s r _ (hb0.out _).2 HS.out HOK.out HR.out).mono ?_
   rintro e w1 ⟨rfl, hb⟩
   rw [HN.out, HC.out]
   have hB1 := (hb0.out 37).1.trans (hb.mono (hb0.out 37).1.size)
   have hZ1 : zero4 w1 w.heap.size := (box4_new w _ _ _ _ _).below hb
   have HB1 := Lib.hid hB1
   have HZ1 := Lib.hid hZ1
   clear hb hB1 hZ1
   go_wp2_with fail
   refine (unit_any 4 r _ (HU.out.below HB1.out)).mono ?_
   rintro e w2 ⟨rfl, hb2⟩
   rw [HUV.out]
   have HZ : zero4 w2 w.heap.size := HZ1.out.below hb2
   have HZZ := Lib.hid (HZ.last (HB1.out.trans (hb2.mono HB1.out.size)) (Nat.le_refl _))
   clear hb2 HB1 HZ1
   go_wp2_with fail
   refine (bounds4 _).mono ?_
   rintro e w' ⟨rfl, rfl⟩
   obtain ⟨c0, c1, c2, c3, z0, z1, z2, z3⟩ := HZ
   obtain ⟨g0, g1, g2, g3, hB4⟩ := HZZ.out (.int .i64 0) (.int .i64 0) (.string ⟨#[]⟩) (.slice none 0 0)
   have HB := Lib.hid hB4
   clear hB4
   go_wp2
   exact bodyPost_ret (v := .tuple #[.agg #[.int .i64 0, .int .i64 0, .string ⟨#[]⟩, .slice none 0 0], .int .i64 41]) (by simp [results, Tryz.results97, go_sem, g0, g1, g2, g3]) rfl ⟨ret_val (by rw [HV.out]; rfl), HB.out⟩
  ·have hCN : C = N := by rw [← hC]; exact cap_small (by omega)
   subst hCN
   have hm := mul_le_of u1 (Int.not_lt.1 hg)
   have hm0 : 0 ≤ (C : Int) * u := Int.mul_nonneg q1 hu0
   have d1 : decide (1099511627776 / u < (C : Int)) = false := decide_eq_false hg
   have d2 : decide ((1099511627776 : Int).tdiv u < (C : Int)) = false := decide_eq_false (by rw [tdiv_of (by decide)]; exact hg)
   have HV : Hid (intOk 4 (unitedV 4 s.data.toList) = (⟨4, (C : Int) * u, ⟨#[]⟩, []⟩, 0)) := Lib.hid (by rw [HW.out, if_neg hz, if_neg hg]; rfl)
   have hwr : IntKind.i64.wrap ((C : Int) * u) = (C : Int) * u := IntWalk.i64_in _ (by omega)
   clear hz hg HW hC hdm
   go_enter Tryz.func97, Tryz.ntmps97
   go_wp2_with fail
   refine (number_yes s r _ (hb0.out _).2 HS.out HOK.out HR.out).mono ?_
   rintro e w1 ⟨rfl, hb⟩
   rw [HN.out, HC.out]
   have hB1 := (hb0.out 37).1.trans (hb.mono (hb0.out 37).1.size)
   have hZ1 : zero4 w1 w.heap.size := (box4_new w _ _ _ _ _).below hb
   have HB1 := Lib.hid hB1
   have HZ1 := Lib.hid hZ1
   clear hb hB1 hZ1
   go_wp2_with fail
   refine (unit_any 4 r _ (HU.out.below HB1.out)).mono ?_
   rintro e w2 ⟨rfl, hb2⟩
   rw [HUV.out]
   have HZ : zero4 w2 w.heap.size := HZ1.out.below hb2
   have HZZ := Lib.hid (HZ.last (HB1.out.trans (hb2.mono HB1.out.size)) (Nat.le_refl _))
   clear hb2 HB1 HZ1
   go_wp2_with fail
   refine (bounds4 _).mono ?_
   rintro e w' ⟨rfl, rfl⟩
   obtain ⟨c0, c1, c2, c3, z0, z1, z2, z3⟩ := HZ
   obtain ⟨g0, g1, g2, g3, hB4⟩ := HZZ.out (.int .i64 4) (.int .i64 ((C : Int) * u)) (.string ⟨#[]⟩) (.slice none 0 0)
   have HB := Lib.hid hB4
   clear hB4
   go_wp2
   exact bodyPost_ret (v := .tuple #[.agg #[.int .i64 4, .int .i64 ((C : Int) * u), .string ⟨#[]⟩, .slice none 0 0], .int .i64 0]) (by simp [results, Tryz.results97, go_sem, g0, g1, g2, g3]) rfl ⟨ret_val (by rw [HV.out]; rfl), HB.out⟩

end Go.Proofs.YtlcgfdijohgnpaaGreatDoor
