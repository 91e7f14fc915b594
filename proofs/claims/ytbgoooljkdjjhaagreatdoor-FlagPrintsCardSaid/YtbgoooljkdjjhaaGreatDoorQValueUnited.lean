/-
  ValueUnited.
-/
import Derived.Test.YtbgoooljkdjjhaaGreatDoorQValueWhole
import Derived.Test.YtbgoooljkdjjhaaGreatDoorQValueMeasure
namespace Go.Proofs.YtbgoooljkdjjhaaGreatDoor
open Go.ChangeShapes Go.WideShapes Go.ChangeAt Go.RowKit

theorem nDig_at {s : ByteArray} {k : Nat} (h : k < s.size) : nDig (s.data.toList.drop k) = if isD s[k] then nDig (s.data.toList.drop (k + 1)) + 1 else 0 := by
  rw [drop_byte s k h]
  split
  · rename_i hd; exact nDig_yes hd
  · rename_i hd; exact nDig_no (by simpa using hd)
theorem all_take_while (l : List UInt8) : (l.takeWhile isD).all isD = true := takeWhile_all l
theorem refNum_tw (l : List UInt8) : refNum (l.takeWhile isD) = (((capN (dec (l.takeWhile isD)) : Nat) : Int), numOkS l) := by
  unfold refNum; rw [takeWhile_all]; rfl

set_option maxHeartbeats 1600000 in
set_option maxRecDepth 100000 in
theorem united3_any (s : ByteArray) (w : World) (hs : s.size ≤ maxLen) :
    Calls Tryz.prog 115 #[.int .i64 3, .string s] w fun e w' => e = .returned (numR (intOk 3 (unitedV 3 s.data.toList))) ∧ Below w.heap.size w w' := by
  unfold maxLen at hs
  obtain ⟨d, hd⟩ : ∃ d, nDig s.data.toList = d := ⟨_, rfl⟩
  have hdle := nDig_le s.data.toList
  rw [hd, size_data] at hdle
  have hX : (s.extract 0 d).data.toList = s.data.toList.takeWhile isD := by rw [Lib.extract_from_zero, ← hd, nDig_take]
  have hY : (s.extract d s.size).data.toList = s.data.toList.dropWhile isD := by rw [Lib.extract_to_end, ← hd, nDig_drop]
  obtain ⟨T, hT⟩ : ∃ T, s.extract 0 d = T := ⟨_, rfl⟩
  obtain ⟨r, hr⟩ : ∃ r, s.extract d s.size = r := ⟨_, rfl⟩
  rw [hT] at hX
  rw [hr] at hY
  have HT := Lib.hid hT
  have HRR := Lib.hid hr
  have HTS : Hid (T.size ≤ maxLen) := Lib.hid (by unfold maxLen; rw [← hT, ByteArray.size_extract]; omega)
  obtain ⟨N, hN⟩ : ∃ N, dec (s.data.toList.takeWhile isD) = N := ⟨_, rfl⟩
  obtain ⟨C, hC⟩ : ∃ C, capN N = C := ⟨_, rfl⟩
  have hCle : C ≤ 4611686018427387905 := by rw [← hC]; exact cap_le N
  obtain ⟨ok, hok⟩ : ∃ ok, numOkS s.data.toList = ok := ⟨_, rfl⟩
  have HRN : Hid (refNum T.data.toList = ((C : Int), ok)) := Lib.hid (by rw [hX, refNum_tw, hN, hC, hok])
  obtain ⟨u, hu⟩ : ∃ u, unitV 3 r.data.toList = u := ⟨_, rfl⟩
  have HU := Lib.hid hu
  have hub := unit_bd 3 r.data.toList
  rw [hu] at hub
  obtain ⟨hu0, hu1⟩ := hub
  have q1 : (0 : Int) ≤ C := by omega
  have q2 : (d : Int) ≤ s.size := by omega
  have q3 : (0 : Int) ≤ d := by omega
  have HDD : Hid (nDig s.data.toList = d) := Lib.hid hd
  cases ok with
  | false =>
    have h48 : (s.toList == [48]) = false := ne_text (fun h => by rw [h, one48] at hok; cases hok)
    have HV : Hid (intOk 3 (unitedV 3 s.data.toList) = (zeroV, 40)) := Lib.hid (by unfold unitedV; rw [if_pos (Or.inl (show numOk (s.data.toList.takeWhile isD) = false from hok))]; rfl)
    clear hd hT hr hN hC hok hu hX hY
    go_enter Tryz.func115, Tryz.ntmps115
    go_wp2
    go_loop [6] (fun i => ∃ k : Nat, i = .int .i64 k ∧ k ≤ s.size ∧ Hid (nDig s.data.toList = k + nDig (s.data.toList.drop k))) (fun i => s.size - (intOf i).toNat)
    case atStart => exact ⟨0, rfl, by omega, Lib.hid (by simp)⟩
    case round =>
      obtain ⟨k, rfl, hk, HK⟩ := hrel
      by_cases hlt : k < s.size
      · have hat := nDig_at hlt
        have hb := byte_le s k hlt
        by_cases hdg : isD s[k] = true
        · have HX : Hid (nDig s.data.toList = (k + 1) + nDig (s.data.toList.drop (k + 1))) := Lib.hid (by rw [HK.out, hat, if_pos hdg]; omega)
          obtain ⟨hd1, hd2⟩ : 48 ≤ s[k].toNat ∧ s[k].toNat ≤ 57 := by simpa [isD] using hdg
          have t1 : decide ((48 : Int) ≤ s[k].toNat) = true := decide_eq_true (by omega)
          have t2 : decide ((s[k].toNat : Int) ≤ 57) = true := decide_eq_true (by omega)
          clear hat hdg
          go_wp2
          go_round
          case rel => exact ⟨k + 1, by go_num, by omega, HX⟩
          case measure => simp [intOf]; omega
        · have hkd : k = d := by have := HK.out; rw [hat, if_neg hdg, HDD.out] at this; omega
          have hno : s[k].toNat < 48 ∨ (48 ≤ s[k].toNat ∧ 57 < s[k].toNat) := by simp [isD] at hdg; omega
          clear hat hdg
          subst hkd
          rcases hno with h | ⟨h, h'⟩
          · have t1 : decide ((48 : Int) ≤ s[k].toNat) = false := decide_eq_false (by omega)
            go_wp2_with fail
            rw [HT.out]
            refine (refNumber_any _ _ HTS.out).mono ?_
            rintro e w' ⟨rfl, rfl⟩
            rw [HRN.out]
            go_wp2_with fail
            rw [HRR.out]
            refine (refUnit_any 3 _ _).mono ?_
            rintro e w' ⟨rfl, rfl⟩
            rw [HU.out]
            go_wp2
            exact bodyPost_ret (v := .tuple #[.agg #[.int .i64 0, .int .i64 0, .string ⟨#[]⟩, .slice none 0 0], .int .i64 40]) (by simp [results, Tryz.results115, go_sem]) rfl ⟨ret_val (by rw [HV.out]; rfl), (Below.refl _ _).alloc (Nat.le_refl _) _⟩
          · have t1 : decide ((48 : Int) ≤ s[k].toNat) = true := decide_eq_true (by omega)
            have t2 : decide ((s[k].toNat : Int) ≤ 57) = false := decide_eq_false (by omega)
            go_wp2_with fail
            rw [HT.out]
            refine (refNumber_any _ _ HTS.out).mono ?_
            rintro e w' ⟨rfl, rfl⟩
            rw [HRN.out]
            go_wp2_with fail
            rw [HRR.out]
            refine (refUnit_any 3 _ _).mono ?_
            rintro e w' ⟨rfl, rfl⟩
            rw [HU.out]
            go_wp2
            exact bodyPost_ret (v := .tuple #[.agg #[.int .i64 0, .int .i64 0, .string ⟨#[]⟩, .slice none 0 0], .int .i64 40]) (by simp [results, Tryz.results115, go_sem]) rfl ⟨ret_val (by rw [HV.out]; rfl), (Below.refl _ _).alloc (Nat.le_refl _) _⟩
      · have hkd : k = d := by have := HK.out; rw [List.drop_eq_nil_of_le (by rw [size_data]; omega), HDD.out] at this; simp [nDig] at this; omega
        subst hkd
        go_wp2_with fail
        rw [HT.out]
        refine (refNumber_any _ _ HTS.out).mono ?_
        rintro e w' ⟨rfl, rfl⟩
        rw [HRN.out]
        go_wp2_with fail
        rw [HRR.out]
        refine (refUnit_any 3 _ _).mono ?_
        rintro e w' ⟨rfl, rfl⟩
        rw [HU.out]
        go_wp2
        exact bodyPost_ret (v := .tuple #[.agg #[.int .i64 0, .int .i64 0, .string ⟨#[]⟩, .slice none 0 0], .int .i64 40]) (by simp [results, Tryz.results115, go_sem]) rfl ⟨ret_val (by rw [HV.out]; rfl), (Below.refl _ _).alloc (Nat.le_refl _) _⟩
  | true =>
    have hsp : spanU 3 s.data.toList = u := by unfold spanU; rw [if_neg (by intro h; exact absurd h.1 (by decide)), ← hY, hu]
    have hW : unitedV 3 s.data.toList = if u = 0 then (0, 40) else if 1125899906842624 / u < (N : Int) then (0, 41) else ((N : Int) * u, 0) := by
      unfold unitedV
      rw [hsp, hN, show numOk (s.data.toList.takeWhile isD) = true from hok]
      simp [mostV]
    have HW := Lib.hid hW
    by_cases hz : u = 0
    · subst hz
      have HV : Hid (intOk 3 (unitedV 3 s.data.toList) = (zeroV, 40)) := Lib.hid (by rw [HW.out, if_pos rfl]; rfl)
      clear hW hsp hd hT hr hN hC hok hu hX hY
      go_enter Tryz.func115, Tryz.ntmps115
      go_wp2
      go_loop [6] (fun i => ∃ k : Nat, i = .int .i64 k ∧ k ≤ s.size ∧ Hid (nDig s.data.toList = k + nDig (s.data.toList.drop k))) (fun i => s.size - (intOf i).toNat)
      case atStart => exact ⟨0, rfl, by omega, Lib.hid (by simp)⟩
      case round =>
        obtain ⟨k, rfl, hk, HK⟩ := hrel
        by_cases hlt : k < s.size
        · have hat := nDig_at hlt
          have hb := byte_le s k hlt
          by_cases hdg : isD s[k] = true
          · have HX : Hid (nDig s.data.toList = (k + 1) + nDig (s.data.toList.drop (k + 1))) := Lib.hid (by rw [HK.out, hat, if_pos hdg]; omega)
            obtain ⟨hd1, hd2⟩ : 48 ≤ s[k].toNat ∧ s[k].toNat ≤ 57 := by simpa [isD] using hdg
            have t1 : decide ((48 : Int) ≤ s[k].toNat) = true := decide_eq_true (by omega)
            have t2 : decide ((s[k].toNat : Int) ≤ 57) = true := decide_eq_true (by omega)
            clear hat hdg
            go_wp2
            go_round
            case rel => exact ⟨k + 1, by go_num, by omega, HX⟩
            case measure => simp [intOf]; omega
          · have hkd : k = d := by have := HK.out; rw [hat, if_neg hdg, HDD.out] at this; omega
            have hno : s[k].toNat < 48 ∨ (48 ≤ s[k].toNat ∧ 57 < s[k].toNat) := by simp [isD] at hdg; omega
            clear hat hdg
            subst hkd
            rcases hno with h | ⟨h, h'⟩
            · have t1 : decide ((48 : Int) ≤ s[k].toNat) = false := decide_eq_false (by omega)
              go_wp2_with fail
              rw [HT.out]
              refine (refNumber_any _ _ HTS.out).mono ?_
              rintro e w' ⟨rfl, rfl⟩
              rw [HRN.out]
              go_wp2_with fail
              rw [HRR.out]
              refine (refUnit_any 3 _ _).mono ?_
              rintro e w' ⟨rfl, rfl⟩
              rw [HU.out]
              go_wp2
              exact bodyPost_ret (v := .tuple #[.agg #[.int .i64 0, .int .i64 0, .string ⟨#[]⟩, .slice none 0 0], .int .i64 40]) (by simp [results, Tryz.results115, go_sem]) rfl ⟨ret_val (by rw [HV.out]; rfl), (Below.refl _ _).alloc (Nat.le_refl _) _⟩
            · have t1 : decide ((48 : Int) ≤ s[k].toNat) = true := decide_eq_true (by omega)
              have t2 : decide ((s[k].toNat : Int) ≤ 57) = false := decide_eq_false (by omega)
              go_wp2_with fail
              rw [HT.out]
              refine (refNumber_any _ _ HTS.out).mono ?_
              rintro e w' ⟨rfl, rfl⟩
              rw [HRN.out]
              go_wp2_with fail
              rw [HRR.out]
              refine (refUnit_any 3 _ _).mono ?_
              rintro e w' ⟨rfl, rfl⟩
              rw [HU.out]
              go_wp2
              exact bodyPost_ret (v := .tuple #[.agg #[.int .i64 0, .int .i64 0, .string ⟨#[]⟩, .slice none 0 0], .int .i64 40]) (by simp [results, Tryz.results115, go_sem]) rfl ⟨ret_val (by rw [HV.out]; rfl), (Below.refl _ _).alloc (Nat.le_refl _) _⟩
        · have hkd : k = d := by have := HK.out; rw [List.drop_eq_nil_of_le (by rw [size_data]; omega), HDD.out] at this; simp [nDig] at this; omega
          subst hkd
          go_wp2_with fail
          rw [HT.out]
          refine (refNumber_any _ _ HTS.out).mono ?_
          rintro e w' ⟨rfl, rfl⟩
          rw [HRN.out]
          go_wp2_with fail
          rw [HRR.out]
          refine (refUnit_any 3 _ _).mono ?_
          rintro e w' ⟨rfl, rfl⟩
          rw [HU.out]
          go_wp2
          exact bodyPost_ret (v := .tuple #[.agg #[.int .i64 0, .int .i64 0, .string ⟨#[]⟩, .slice none 0 0], .int .i64 40]) (by simp [results, Tryz.results115, go_sem]) rfl ⟨ret_val (by rw [HV.out]; rfl), (Below.refl _ _).alloc (Nat.le_refl _) _⟩
    have e0 : (u == 0) = false := beq_eq_false_iff_ne.2 hz
    have u1 : 1 ≤ u := by omega
    have hdm := div_le_self' (m := 1125899906842624) (u := u) (by decide)
    by_cases hg : 1125899906842624 / u < (N : Int)
    · have hg2 : 1125899906842624 / u < (C : Int) := by
        rcases Nat.lt_or_ge N 4611686018427387905 with h | h
        · rw [← hC, cap_small (by omega)]; exact hg
        · rw [← hC, cap_big h]; omega
      have d1 : decide (1125899906842624 / u < (C : Int)) = true := decide_eq_true hg2
      have d2 : decide ((1125899906842624 : Int).tdiv u < (C : Int)) = true := decide_eq_true (by rw [tdiv_of (by decide)]; exact hg2)
      have HV : Hid (intOk 3 (unitedV 3 s.data.toList) = (zeroV, 41)) := Lib.hid (by rw [HW.out, if_neg hz, if_pos hg]; rfl)
      clear hg hg2 hz hW hsp hdm hd hT hr hN hC hok hu hX hY
      go_enter Tryz.func115, Tryz.ntmps115
      go_wp2
      go_loop [6] (fun i => ∃ k : Nat, i = .int .i64 k ∧ k ≤ s.size ∧ Hid (nDig s.data.toList = k + nDig (s.data.toList.drop k))) (fun i => s.size - (intOf i).toNat)
      case atStart => exact ⟨0, rfl, by omega, Lib.hid (by simp)⟩
      case round =>
        obtain ⟨k, rfl, hk, HK⟩ := hrel
        by_cases hlt : k < s.size
        · have hat := nDig_at hlt
          have hb := byte_le s k hlt
          by_cases hdg : isD s[k] = true
          · have HX : Hid (nDig s.data.toList = (k + 1) + nDig (s.data.toList.drop (k + 1))) := Lib.hid (by rw [HK.out, hat, if_pos hdg]; omega)
            obtain ⟨hd1, hd2⟩ : 48 ≤ s[k].toNat ∧ s[k].toNat ≤ 57 := by simpa [isD] using hdg
            have t1 : decide ((48 : Int) ≤ s[k].toNat) = true := decide_eq_true (by omega)
            have t2 : decide ((s[k].toNat : Int) ≤ 57) = true := decide_eq_true (by omega)
            clear hat hdg
            go_wp2
            go_round
            case rel => exact ⟨k + 1, by go_num, by omega, HX⟩
            case measure => simp [intOf]; omega
          · have hkd : k = d := by have := HK.out; rw [hat, if_neg hdg, HDD.out] at this; omega
            have hno : s[k].toNat < 48 ∨ (48 ≤ s[k].toNat ∧ 57 < s[k].toNat) := by simp [isD] at hdg; omega
            clear hat hdg
            subst hkd
            rcases hno with h | ⟨h, h'⟩
            · have t1 : decide ((48 : Int) ≤ s[k].toNat) = false := decide_eq_false (by omega)
              go_wp2_with fail
              rw [HT.out]
              refine (refNumber_any _ _ HTS.out).mono ?_
              rintro e w' ⟨rfl, rfl⟩
              rw [HRN.out]
              go_wp2_with fail
              rw [HRR.out]
              refine (refUnit_any 3 _ _).mono ?_
              rintro e w' ⟨rfl, rfl⟩
              rw [HU.out]
              go_wp2_with fail
              refine (refMost_any 3 _).mono ?_
              rintro e w' ⟨rfl, rfl⟩
              rw [show mostV 3 = 1125899906842624 from rfl]
              go_wp2
              exact bodyPost_ret (v := .tuple #[.agg #[.int .i64 0, .int .i64 0, .string ⟨#[]⟩, .slice none 0 0], .int .i64 41]) (by simp [results, Tryz.results115, go_sem]) rfl ⟨ret_val (by rw [HV.out]; rfl), (Below.refl _ _).alloc (Nat.le_refl _) _⟩
            · have t1 : decide ((48 : Int) ≤ s[k].toNat) = true := decide_eq_true (by omega)
              have t2 : decide ((s[k].toNat : Int) ≤ 57) = false := decide_eq_false (by omega)
              go_wp2_with fail
              rw [HT.out]
              refine (refNumber_any _ _ HTS.out).mono ?_
              rintro e w' ⟨rfl, rfl⟩
              rw [HRN.out]
              go_wp2_with fail
              rw [HRR.out]
              refine (refUnit_any 3 _ _).mono ?_
              rintro e w' ⟨rfl, rfl⟩
              rw [HU.out]
              go_wp2_with fail
              refine (refMost_any 3 _).mono ?_
              rintro e w' ⟨rfl, rfl⟩
              rw [show mostV 3 = 1125899906842624 from rfl]
              go_wp2
              exact bodyPost_ret (v := .tuple #[.agg #[.int .i64 0, .int .i64 0, .string ⟨#[]⟩, .slice none 0 0], .int .i64 41]) (by simp [results, Tryz.results115, go_sem]) rfl ⟨ret_val (by rw [HV.out]; rfl), (Below.refl _ _).alloc (Nat.le_refl _) _⟩
        · have hkd : k = d := by have := HK.out; rw [List.drop_eq_nil_of_le (by rw [size_data]; omega), HDD.out] at this; simp [nDig] at this; omega
          subst hkd
          go_wp2_with fail
          rw [HT.out]
          refine (refNumber_any _ _ HTS.out).mono ?_
          rintro e w' ⟨rfl, rfl⟩
          rw [HRN.out]
          go_wp2_with fail
          rw [HRR.out]
          refine (refUnit_any 3 _ _).mono ?_
          rintro e w' ⟨rfl, rfl⟩
          rw [HU.out]
          go_wp2_with fail
          refine (refMost_any 3 _).mono ?_
          rintro e w' ⟨rfl, rfl⟩
          rw [show mostV 3 = 1125899906842624 from rfl]
          go_wp2
          exact bodyPost_ret (v := .tuple #[.agg #[.int .i64 0, .int .i64 0, .string ⟨#[]⟩, .slice none 0 0], .int .i64 41]) (by simp [results, Tryz.results115, go_sem]) rfl ⟨ret_val (by rw [HV.out]; rfl), (Below.refl _ _).alloc (Nat.le_refl _) _⟩
    · have hCN : C = N := by rw [← hC]; exact cap_small (by omega)
      have hg2 : ¬ (1125899906842624 / u < (C : Int)) := by rw [hCN]; exact hg
      have hm := mul_le_of u1 (Int.not_lt.1 hg2)
      have hm0 : 0 ≤ (C : Int) * u := Int.mul_nonneg q1 hu0
      have d1 : decide (1125899906842624 / u < (C : Int)) = false := decide_eq_false hg2
      have d2 : decide ((1125899906842624 : Int).tdiv u < (C : Int)) = false := decide_eq_false (by rw [tdiv_of (by decide)]; exact hg2)
      have HV : Hid (intOk 3 (unitedV 3 s.data.toList) = (⟨3, (C : Int) * u, ⟨#[]⟩, []⟩, 0)) := Lib.hid (by rw [HW.out, if_neg hz, if_neg hg, hCN]; rfl)
      have hwr : IntKind.i64.wrap ((C : Int) * u) = (C : Int) * u := IntWalk.i64_in _ (by omega)
      clear hg hg2 hz hW hsp hdm hCN hd hT hr hN hC hok hu hX hY
      go_enter Tryz.func115, Tryz.ntmps115
      go_wp2
      go_loop [6] (fun i => ∃ k : Nat, i = .int .i64 k ∧ k ≤ s.size ∧ Hid (nDig s.data.toList = k + nDig (s.data.toList.drop k))) (fun i => s.size - (intOf i).toNat)
      case atStart => exact ⟨0, rfl, by omega, Lib.hid (by simp)⟩
      case round =>
        obtain ⟨k, rfl, hk, HK⟩ := hrel
        by_cases hlt : k < s.size
        · have hat := nDig_at hlt
          have hb := byte_le s k hlt
          by_cases hdg : isD s[k] = true
          · have HX : Hid (nDig s.data.toList = (k + 1) + nDig (s.data.toList.drop (k + 1))) := Lib.hid (by rw [HK.out, hat, if_pos hdg]; omega)
            obtain ⟨hd1, hd2⟩ : 48 ≤ s[k].toNat ∧ s[k].toNat ≤ 57 := by simpa [isD] using hdg
            have t1 : decide ((48 : Int) ≤ s[k].toNat) = true := decide_eq_true (by omega)
            have t2 : decide ((s[k].toNat : Int) ≤ 57) = true := decide_eq_true (by omega)
            clear hat hdg
            go_wp2
            go_round
            case rel => exact ⟨k + 1, by go_num, by omega, HX⟩
            case measure => simp [intOf]; omega
          · have hkd : k = d := by have := HK.out; rw [hat, if_neg hdg, HDD.out] at this; omega
            have hno : s[k].toNat < 48 ∨ (48 ≤ s[k].toNat ∧ 57 < s[k].toNat) := by simp [isD] at hdg; omega
            clear hat hdg
            subst hkd
            rcases hno with h | ⟨h, h'⟩
            · have t1 : decide ((48 : Int) ≤ s[k].toNat) = false := decide_eq_false (by omega)
              go_wp2_with fail
              rw [HT.out]
              refine (refNumber_any _ _ HTS.out).mono ?_
              rintro e w' ⟨rfl, rfl⟩
              rw [HRN.out]
              go_wp2_with fail
              rw [HRR.out]
              refine (refUnit_any 3 _ _).mono ?_
              rintro e w' ⟨rfl, rfl⟩
              rw [HU.out]
              go_wp2_with fail
              refine (refMost_any 3 _).mono ?_
              rintro e w' ⟨rfl, rfl⟩
              rw [show mostV 3 = 1125899906842624 from rfl]
              go_wp2
              exact bodyPost_ret (v := .tuple #[.agg #[.int .i64 3, .int .i64 ((C : Int) * u), .string ⟨#[]⟩, .slice none 0 0], .int .i64 0]) (by simp [results, Tryz.results115, go_sem]) rfl ⟨ret_val (by rw [HV.out]; rfl), (Below.refl _ _).alloc (Nat.le_refl _) _⟩
            · have t1 : decide ((48 : Int) ≤ s[k].toNat) = true := decide_eq_true (by omega)
              have t2 : decide ((s[k].toNat : Int) ≤ 57) = false := decide_eq_false (by omega)
              go_wp2_with fail
              rw [HT.out]
              refine (refNumber_any _ _ HTS.out).mono ?_
              rintro e w' ⟨rfl, rfl⟩
              rw [HRN.out]
              go_wp2_with fail
              rw [HRR.out]
              refine (refUnit_any 3 _ _).mono ?_
              rintro e w' ⟨rfl, rfl⟩
              rw [HU.out]
              go_wp2_with fail
              refine (refMost_any 3 _).mono ?_
              rintro e w' ⟨rfl, rfl⟩
              rw [show mostV 3 = 1125899906842624 from rfl]
              go_wp2
              exact bodyPost_ret (v := .tuple #[.agg #[.int .i64 3, .int .i64 ((C : Int) * u), .string ⟨#[]⟩, .slice none 0 0], .int .i64 0]) (by simp [results, Tryz.results115, go_sem]) rfl ⟨ret_val (by rw [HV.out]; rfl), (Below.refl _ _).alloc (Nat.le_refl _) _⟩
        · have hkd : k = d := by have := HK.out; rw [List.drop_eq_nil_of_le (by rw [size_data]; omega), HDD.out] at this; simp [nDig] at this; omega
          subst hkd
          go_wp2_with fail
          rw [HT.out]
          refine (refNumber_any _ _ HTS.out).mono ?_
          rintro e w' ⟨rfl, rfl⟩
          rw [HRN.out]
          go_wp2_with fail
          rw [HRR.out]
          refine (refUnit_any 3 _ _).mono ?_
          rintro e w' ⟨rfl, rfl⟩
          rw [HU.out]
          go_wp2_with fail
          refine (refMost_any 3 _).mono ?_
          rintro e w' ⟨rfl, rfl⟩
          rw [show mostV 3 = 1125899906842624 from rfl]
          go_wp2
          exact bodyPost_ret (v := .tuple #[.agg #[.int .i64 3, .int .i64 ((C : Int) * u), .string ⟨#[]⟩, .slice none 0 0], .int .i64 0]) (by simp [results, Tryz.results115, go_sem]) rfl ⟨ret_val (by rw [HV.out]; rfl), (Below.refl _ _).alloc (Nat.le_refl _) _⟩

set_option maxHeartbeats 1600000 in
set_option maxRecDepth 100000 in
theorem united4_any (s : ByteArray) (w : World) (hs : s.size ≤ maxLen) :
    Calls Tryz.prog 115 #[.int .i64 4, .string s] w fun e w' => e = .returned (numR (intOk 4 (unitedV 4 s.data.toList))) ∧ Below w.heap.size w w' := by
  unfold maxLen at hs
  obtain ⟨d, hd⟩ : ∃ d, nDig s.data.toList = d := ⟨_, rfl⟩
  have hdle := nDig_le s.data.toList
  rw [hd, size_data] at hdle
  have hX : (s.extract 0 d).data.toList = s.data.toList.takeWhile isD := by rw [Lib.extract_from_zero, ← hd, nDig_take]
  have hY : (s.extract d s.size).data.toList = s.data.toList.dropWhile isD := by rw [Lib.extract_to_end, ← hd, nDig_drop]
  obtain ⟨T, hT⟩ : ∃ T, s.extract 0 d = T := ⟨_, rfl⟩
  obtain ⟨r, hr⟩ : ∃ r, s.extract d s.size = r := ⟨_, rfl⟩
  rw [hT] at hX
  rw [hr] at hY
  have HT := Lib.hid hT
  have HRR := Lib.hid hr
  have HTS : Hid (T.size ≤ maxLen) := Lib.hid (by unfold maxLen; rw [← hT, ByteArray.size_extract]; omega)
  obtain ⟨N, hN⟩ : ∃ N, dec (s.data.toList.takeWhile isD) = N := ⟨_, rfl⟩
  obtain ⟨C, hC⟩ : ∃ C, capN N = C := ⟨_, rfl⟩
  have hCle : C ≤ 4611686018427387905 := by rw [← hC]; exact cap_le N
  obtain ⟨ok, hok⟩ : ∃ ok, numOkS s.data.toList = ok := ⟨_, rfl⟩
  have HRN : Hid (refNum T.data.toList = ((C : Int), ok)) := Lib.hid (by rw [hX, refNum_tw, hN, hC, hok])
  obtain ⟨u, hu⟩ : ∃ u, unitV 4 r.data.toList = u := ⟨_, rfl⟩
  have HU := Lib.hid hu
  have hub := unit_bd 4 r.data.toList
  rw [hu] at hub
  obtain ⟨hu0, hu1⟩ := hub
  have q1 : (0 : Int) ≤ C := by omega
  have q2 : (d : Int) ≤ s.size := by omega
  have q3 : (0 : Int) ≤ d := by omega
  have HDD : Hid (nDig s.data.toList = d) := Lib.hid hd
  cases ok with
  | false =>
    have h48 : (s.toList == [48]) = false := ne_text (fun h => by rw [h, one48] at hok; cases hok)
    have HV : Hid (intOk 4 (unitedV 4 s.data.toList) = (zeroV, 40)) := Lib.hid (by unfold unitedV; rw [if_pos (Or.inl (show numOk (s.data.toList.takeWhile isD) = false from hok))]; rfl)
    clear hd hT hr hN hC hok hu hX hY
    go_enter Tryz.func115, Tryz.ntmps115
    go_wp2
    go_loop [6] (fun i => ∃ k : Nat, i = .int .i64 k ∧ k ≤ s.size ∧ Hid (nDig s.data.toList = k + nDig (s.data.toList.drop k))) (fun i => s.size - (intOf i).toNat)
    case atStart => exact ⟨0, rfl, by omega, Lib.hid (by simp)⟩
    case round =>
      obtain ⟨k, rfl, hk, HK⟩ := hrel
      by_cases hlt : k < s.size
      · have hat := nDig_at hlt
        have hb := byte_le s k hlt
        by_cases hdg : isD s[k] = true
        · have HX : Hid (nDig s.data.toList = (k + 1) + nDig (s.data.toList.drop (k + 1))) := Lib.hid (by rw [HK.out, hat, if_pos hdg]; omega)
          obtain ⟨hd1, hd2⟩ : 48 ≤ s[k].toNat ∧ s[k].toNat ≤ 57 := by simpa [isD] using hdg
          have t1 : decide ((48 : Int) ≤ s[k].toNat) = true := decide_eq_true (by omega)
          have t2 : decide ((s[k].toNat : Int) ≤ 57) = true := decide_eq_true (by omega)
          clear hat hdg
          go_wp2
          go_round
          case rel => exact ⟨k + 1, by go_num, by omega, HX⟩
          case measure => simp [intOf]; omega
        · have hkd : k = d := by have := HK.out; rw [hat, if_neg hdg, HDD.out] at this; omega
          have hno : s[k].toNat < 48 ∨ (48 ≤ s[k].toNat ∧ 57 < s[k].toNat) := by simp [isD] at hdg; omega
          clear hat hdg
          subst hkd
          rcases hno with h | ⟨h, h'⟩
          · have t1 : decide ((48 : Int) ≤ s[k].toNat) = false := decide_eq_false (by omega)
            go_wp2_with fail
            rw [HT.out]
            refine (refNumber_any _ _ HTS.out).mono ?_
            rintro e w' ⟨rfl, rfl⟩
            rw [HRN.out]
            go_wp2_with fail
            rw [HRR.out]
            refine (refUnit_any 4 _ _).mono ?_
            rintro e w' ⟨rfl, rfl⟩
            rw [HU.out]
            go_wp2
            exact bodyPost_ret (v := .tuple #[.agg #[.int .i64 0, .int .i64 0, .string ⟨#[]⟩, .slice none 0 0], .int .i64 40]) (by simp [results, Tryz.results115, go_sem]) rfl ⟨ret_val (by rw [HV.out]; rfl), (Below.refl _ _).alloc (Nat.le_refl _) _⟩
          · have t1 : decide ((48 : Int) ≤ s[k].toNat) = true := decide_eq_true (by omega)
            have t2 : decide ((s[k].toNat : Int) ≤ 57) = false := decide_eq_false (by omega)
            go_wp2_with fail
            rw [HT.out]
            refine (refNumber_any _ _ HTS.out).mono ?_
            rintro e w' ⟨rfl, rfl⟩
            rw [HRN.out]
            go_wp2_with fail
            rw [HRR.out]
            refine (refUnit_any 4 _ _).mono ?_
            rintro e w' ⟨rfl, rfl⟩
            rw [HU.out]
            go_wp2
            exact bodyPost_ret (v := .tuple #[.agg #[.int .i64 0, .int .i64 0, .string ⟨#[]⟩, .slice none 0 0], .int .i64 40]) (by simp [results, Tryz.results115, go_sem]) rfl ⟨ret_val (by rw [HV.out]; rfl), (Below.refl _ _).alloc (Nat.le_refl _) _⟩
      · have hkd : k = d := by have := HK.out; rw [List.drop_eq_nil_of_le (by rw [size_data]; omega), HDD.out] at this; simp [nDig] at this; omega
        subst hkd
        go_wp2_with fail
        rw [HT.out]
        refine (refNumber_any _ _ HTS.out).mono ?_
        rintro e w' ⟨rfl, rfl⟩
        rw [HRN.out]
        go_wp2_with fail
        rw [HRR.out]
        refine (refUnit_any 4 _ _).mono ?_
        rintro e w' ⟨rfl, rfl⟩
        rw [HU.out]
        go_wp2
        exact bodyPost_ret (v := .tuple #[.agg #[.int .i64 0, .int .i64 0, .string ⟨#[]⟩, .slice none 0 0], .int .i64 40]) (by simp [results, Tryz.results115, go_sem]) rfl ⟨ret_val (by rw [HV.out]; rfl), (Below.refl _ _).alloc (Nat.le_refl _) _⟩
  | true =>
    by_cases h48 : s.data.toList = [48]
    · have hsp : spanU 4 s.data.toList = 1 := by unfold spanU; rw [if_pos ⟨rfl, h48⟩]
      have hN0 : N = 0 := by rw [← hN, h48]; decide
      have hC0 : C = 0 := by rw [← hC, hN0]; decide
      have HV : Hid (intOk 4 (unitedV 4 s.data.toList) = (⟨4, 0, ⟨#[]⟩, []⟩, 0)) := Lib.hid (by
        unfold unitedV
        rw [hsp, hN, hN0, show numOk (s.data.toList.takeWhile isD) = true from hok]; rfl)
      have e48 : (s.toList == [48]) = true := by rw [toList_eq, h48]; rfl
      subst hC0
      clear hsp hN0 h48 hd hT hr hN hC hok hu hX hY
      go_enter Tryz.func115, Tryz.ntmps115
      go_wp2
      go_loop [6] (fun i => ∃ k : Nat, i = .int .i64 k ∧ k ≤ s.size ∧ Hid (nDig s.data.toList = k + nDig (s.data.toList.drop k))) (fun i => s.size - (intOf i).toNat)
      case atStart => exact ⟨0, rfl, by omega, Lib.hid (by simp)⟩
      case round =>
        obtain ⟨k, rfl, hk, HK⟩ := hrel
        by_cases hlt : k < s.size
        · have hat := nDig_at hlt
          have hb := byte_le s k hlt
          by_cases hdg : isD s[k] = true
          · have HX : Hid (nDig s.data.toList = (k + 1) + nDig (s.data.toList.drop (k + 1))) := Lib.hid (by rw [HK.out, hat, if_pos hdg]; omega)
            obtain ⟨hd1, hd2⟩ : 48 ≤ s[k].toNat ∧ s[k].toNat ≤ 57 := by simpa [isD] using hdg
            have t1 : decide ((48 : Int) ≤ s[k].toNat) = true := decide_eq_true (by omega)
            have t2 : decide ((s[k].toNat : Int) ≤ 57) = true := decide_eq_true (by omega)
            clear hat hdg
            go_wp2
            go_round
            case rel => exact ⟨k + 1, by go_num, by omega, HX⟩
            case measure => simp [intOf]; omega
          · have hkd : k = d := by have := HK.out; rw [hat, if_neg hdg, HDD.out] at this; omega
            have hno : s[k].toNat < 48 ∨ (48 ≤ s[k].toNat ∧ 57 < s[k].toNat) := by simp [isD] at hdg; omega
            clear hat hdg
            subst hkd
            rcases hno with h | ⟨h, h'⟩
            · have t1 : decide ((48 : Int) ≤ s[k].toNat) = false := decide_eq_false (by omega)
              go_wp2_with fail
              rw [HT.out]
              refine (refNumber_any _ _ HTS.out).mono ?_
              rintro e w' ⟨rfl, rfl⟩
              rw [HRN.out]
              go_wp2_with fail
              rw [HRR.out]
              refine (refUnit_any 4 _ _).mono ?_
              rintro e w' ⟨rfl, rfl⟩
              rw [HU.out]
              go_wp2_with fail
              refine (refMost_any 4 _).mono ?_
              rintro e w' ⟨rfl, rfl⟩
              rw [show mostV 4 = 1099511627776 from rfl]
              go_wp2
              exact bodyPost_ret (v := .tuple #[.agg #[.int .i64 4, .int .i64 0, .string ⟨#[]⟩, .slice none 0 0], .int .i64 0]) (by simp [results, Tryz.results115, go_sem]) rfl ⟨ret_val (by rw [HV.out]; rfl), (Below.refl _ _).alloc (Nat.le_refl _) _⟩
            · have t1 : decide ((48 : Int) ≤ s[k].toNat) = true := decide_eq_true (by omega)
              have t2 : decide ((s[k].toNat : Int) ≤ 57) = false := decide_eq_false (by omega)
              go_wp2_with fail
              rw [HT.out]
              refine (refNumber_any _ _ HTS.out).mono ?_
              rintro e w' ⟨rfl, rfl⟩
              rw [HRN.out]
              go_wp2_with fail
              rw [HRR.out]
              refine (refUnit_any 4 _ _).mono ?_
              rintro e w' ⟨rfl, rfl⟩
              rw [HU.out]
              go_wp2_with fail
              refine (refMost_any 4 _).mono ?_
              rintro e w' ⟨rfl, rfl⟩
              rw [show mostV 4 = 1099511627776 from rfl]
              go_wp2
              exact bodyPost_ret (v := .tuple #[.agg #[.int .i64 4, .int .i64 0, .string ⟨#[]⟩, .slice none 0 0], .int .i64 0]) (by simp [results, Tryz.results115, go_sem]) rfl ⟨ret_val (by rw [HV.out]; rfl), (Below.refl _ _).alloc (Nat.le_refl _) _⟩
        · have hkd : k = d := by have := HK.out; rw [List.drop_eq_nil_of_le (by rw [size_data]; omega), HDD.out] at this; simp [nDig] at this; omega
          subst hkd
          go_wp2_with fail
          rw [HT.out]
          refine (refNumber_any _ _ HTS.out).mono ?_
          rintro e w' ⟨rfl, rfl⟩
          rw [HRN.out]
          go_wp2_with fail
          rw [HRR.out]
          refine (refUnit_any 4 _ _).mono ?_
          rintro e w' ⟨rfl, rfl⟩
          rw [HU.out]
          go_wp2_with fail
          refine (refMost_any 4 _).mono ?_
          rintro e w' ⟨rfl, rfl⟩
          rw [show mostV 4 = 1099511627776 from rfl]
          go_wp2
          exact bodyPost_ret (v := .tuple #[.agg #[.int .i64 4, .int .i64 0, .string ⟨#[]⟩, .slice none 0 0], .int .i64 0]) (by simp [results, Tryz.results115, go_sem]) rfl ⟨ret_val (by rw [HV.out]; rfl), (Below.refl _ _).alloc (Nat.le_refl _) _⟩
    have e48 : (s.toList == [48]) = false := ne_text h48
    have hsp : spanU 4 s.data.toList = u := by unfold spanU; rw [if_neg (fun h => h48 h.2), ← hY, hu]
    have hW : unitedV 4 s.data.toList = if u = 0 then (0, 40) else if 1099511627776 / u < (N : Int) then (0, 41) else ((N : Int) * u, 0) := by
      unfold unitedV
      rw [hsp, hN, show numOk (s.data.toList.takeWhile isD) = true from hok]
      simp [mostV]
    have HW := Lib.hid hW
    by_cases hz : u = 0
    · subst hz
      have HV : Hid (intOk 4 (unitedV 4 s.data.toList) = (zeroV, 40)) := Lib.hid (by rw [HW.out, if_pos rfl]; rfl)
      clear hW hsp hd hT hr hN hC hok hu hX hY h48
      go_enter Tryz.func115, Tryz.ntmps115
      go_wp2
      go_loop [6] (fun i => ∃ k : Nat, i = .int .i64 k ∧ k ≤ s.size ∧ Hid (nDig s.data.toList = k + nDig (s.data.toList.drop k))) (fun i => s.size - (intOf i).toNat)
      case atStart => exact ⟨0, rfl, by omega, Lib.hid (by simp)⟩
      case round =>
        obtain ⟨k, rfl, hk, HK⟩ := hrel
        by_cases hlt : k < s.size
        · have hat := nDig_at hlt
          have hb := byte_le s k hlt
          by_cases hdg : isD s[k] = true
          · have HX : Hid (nDig s.data.toList = (k + 1) + nDig (s.data.toList.drop (k + 1))) := Lib.hid (by rw [HK.out, hat, if_pos hdg]; omega)
            obtain ⟨hd1, hd2⟩ : 48 ≤ s[k].toNat ∧ s[k].toNat ≤ 57 := by simpa [isD] using hdg
            have t1 : decide ((48 : Int) ≤ s[k].toNat) = true := decide_eq_true (by omega)
            have t2 : decide ((s[k].toNat : Int) ≤ 57) = true := decide_eq_true (by omega)
            clear hat hdg
            go_wp2
            go_round
            case rel => exact ⟨k + 1, by go_num, by omega, HX⟩
            case measure => simp [intOf]; omega
          · have hkd : k = d := by have := HK.out; rw [hat, if_neg hdg, HDD.out] at this; omega
            have hno : s[k].toNat < 48 ∨ (48 ≤ s[k].toNat ∧ 57 < s[k].toNat) := by simp [isD] at hdg; omega
            clear hat hdg
            subst hkd
            rcases hno with h | ⟨h, h'⟩
            · have t1 : decide ((48 : Int) ≤ s[k].toNat) = false := decide_eq_false (by omega)
              go_wp2_with fail
              rw [HT.out]
              refine (refNumber_any _ _ HTS.out).mono ?_
              rintro e w' ⟨rfl, rfl⟩
              rw [HRN.out]
              go_wp2_with fail
              rw [HRR.out]
              refine (refUnit_any 4 _ _).mono ?_
              rintro e w' ⟨rfl, rfl⟩
              rw [HU.out]
              go_wp2
              exact bodyPost_ret (v := .tuple #[.agg #[.int .i64 0, .int .i64 0, .string ⟨#[]⟩, .slice none 0 0], .int .i64 40]) (by simp [results, Tryz.results115, go_sem]) rfl ⟨ret_val (by rw [HV.out]; rfl), (Below.refl _ _).alloc (Nat.le_refl _) _⟩
            · have t1 : decide ((48 : Int) ≤ s[k].toNat) = true := decide_eq_true (by omega)
              have t2 : decide ((s[k].toNat : Int) ≤ 57) = false := decide_eq_false (by omega)
              go_wp2_with fail
              rw [HT.out]
              refine (refNumber_any _ _ HTS.out).mono ?_
              rintro e w' ⟨rfl, rfl⟩
              rw [HRN.out]
              go_wp2_with fail
              rw [HRR.out]
              refine (refUnit_any 4 _ _).mono ?_
              rintro e w' ⟨rfl, rfl⟩
              rw [HU.out]
              go_wp2
              exact bodyPost_ret (v := .tuple #[.agg #[.int .i64 0, .int .i64 0, .string ⟨#[]⟩, .slice none 0 0], .int .i64 40]) (by simp [results, Tryz.results115, go_sem]) rfl ⟨ret_val (by rw [HV.out]; rfl), (Below.refl _ _).alloc (Nat.le_refl _) _⟩
        · have hkd : k = d := by have := HK.out; rw [List.drop_eq_nil_of_le (by rw [size_data]; omega), HDD.out] at this; simp [nDig] at this; omega
          subst hkd
          go_wp2_with fail
          rw [HT.out]
          refine (refNumber_any _ _ HTS.out).mono ?_
          rintro e w' ⟨rfl, rfl⟩
          rw [HRN.out]
          go_wp2_with fail
          rw [HRR.out]
          refine (refUnit_any 4 _ _).mono ?_
          rintro e w' ⟨rfl, rfl⟩
          rw [HU.out]
          go_wp2
          exact bodyPost_ret (v := .tuple #[.agg #[.int .i64 0, .int .i64 0, .string ⟨#[]⟩, .slice none 0 0], .int .i64 40]) (by simp [results, Tryz.results115, go_sem]) rfl ⟨ret_val (by rw [HV.out]; rfl), (Below.refl _ _).alloc (Nat.le_refl _) _⟩
    have e0 : (u == 0) = false := beq_eq_false_iff_ne.2 hz
    have u1 : 1 ≤ u := by omega
    have hdm := div_le_self' (m := 1099511627776) (u := u) (by decide)
    by_cases hg : 1099511627776 / u < (N : Int)
    · have hg2 : 1099511627776 / u < (C : Int) := by
        rcases Nat.lt_or_ge N 4611686018427387905 with h | h
        · rw [← hC, cap_small (by omega)]; exact hg
        · rw [← hC, cap_big h]; omega
      have d1 : decide (1099511627776 / u < (C : Int)) = true := decide_eq_true hg2
      have d2 : decide ((1099511627776 : Int).tdiv u < (C : Int)) = true := decide_eq_true (by rw [tdiv_of (by decide)]; exact hg2)
      have HV : Hid (intOk 4 (unitedV 4 s.data.toList) = (zeroV, 41)) := Lib.hid (by rw [HW.out, if_neg hz, if_pos hg]; rfl)
      clear hg hg2 hz hW hsp hdm hd hT hr hN hC hok hu hX hY h48
      go_enter Tryz.func115, Tryz.ntmps115
      go_wp2
      go_loop [6] (fun i => ∃ k : Nat, i = .int .i64 k ∧ k ≤ s.size ∧ Hid (nDig s.data.toList = k + nDig (s.data.toList.drop k))) (fun i => s.size - (intOf i).toNat)
      case atStart => exact ⟨0, rfl, by omega, Lib.hid (by simp)⟩
      case round =>
        obtain ⟨k, rfl, hk, HK⟩ := hrel
        by_cases hlt : k < s.size
        · have hat := nDig_at hlt
          have hb := byte_le s k hlt
          by_cases hdg : isD s[k] = true
          · have HX : Hid (nDig s.data.toList = (k + 1) + nDig (s.data.toList.drop (k + 1))) := Lib.hid (by rw [HK.out, hat, if_pos hdg]; omega)
            obtain ⟨hd1, hd2⟩ : 48 ≤ s[k].toNat ∧ s[k].toNat ≤ 57 := by simpa [isD] using hdg
            have t1 : decide ((48 : Int) ≤ s[k].toNat) = true := decide_eq_true (by omega)
            have t2 : decide ((s[k].toNat : Int) ≤ 57) = true := decide_eq_true (by omega)
            clear hat hdg
            go_wp2
            go_round
            case rel => exact ⟨k + 1, by go_num, by omega, HX⟩
            case measure => simp [intOf]; omega
          · have hkd : k = d := by have := HK.out; rw [hat, if_neg hdg, HDD.out] at this; omega
            have hno : s[k].toNat < 48 ∨ (48 ≤ s[k].toNat ∧ 57 < s[k].toNat) := by simp [isD] at hdg; omega
            clear hat hdg
            subst hkd
            rcases hno with h | ⟨h, h'⟩
            · have t1 : decide ((48 : Int) ≤ s[k].toNat) = false := decide_eq_false (by omega)
              go_wp2_with fail
              rw [HT.out]
              refine (refNumber_any _ _ HTS.out).mono ?_
              rintro e w' ⟨rfl, rfl⟩
              rw [HRN.out]
              go_wp2_with fail
              rw [HRR.out]
              refine (refUnit_any 4 _ _).mono ?_
              rintro e w' ⟨rfl, rfl⟩
              rw [HU.out]
              go_wp2_with fail
              refine (refMost_any 4 _).mono ?_
              rintro e w' ⟨rfl, rfl⟩
              rw [show mostV 4 = 1099511627776 from rfl]
              go_wp2
              exact bodyPost_ret (v := .tuple #[.agg #[.int .i64 0, .int .i64 0, .string ⟨#[]⟩, .slice none 0 0], .int .i64 41]) (by simp [results, Tryz.results115, go_sem]) rfl ⟨ret_val (by rw [HV.out]; rfl), (Below.refl _ _).alloc (Nat.le_refl _) _⟩
            · have t1 : decide ((48 : Int) ≤ s[k].toNat) = true := decide_eq_true (by omega)
              have t2 : decide ((s[k].toNat : Int) ≤ 57) = false := decide_eq_false (by omega)
              go_wp2_with fail
              rw [HT.out]
              refine (refNumber_any _ _ HTS.out).mono ?_
              rintro e w' ⟨rfl, rfl⟩
              rw [HRN.out]
              go_wp2_with fail
              rw [HRR.out]
              refine (refUnit_any 4 _ _).mono ?_
              rintro e w' ⟨rfl, rfl⟩
              rw [HU.out]
              go_wp2_with fail
              refine (refMost_any 4 _).mono ?_
              rintro e w' ⟨rfl, rfl⟩
              rw [show mostV 4 = 1099511627776 from rfl]
              go_wp2
              exact bodyPost_ret (v := .tuple #[.agg #[.int .i64 0, .int .i64 0, .string ⟨#[]⟩, .slice none 0 0], .int .i64 41]) (by simp [results, Tryz.results115, go_sem]) rfl ⟨ret_val (by rw [HV.out]; rfl), (Below.refl _ _).alloc (Nat.le_refl _) _⟩
        · have hkd : k = d := by have := HK.out; rw [List.drop_eq_nil_of_le (by rw [size_data]; omega), HDD.out] at this; simp [nDig] at this; omega
          subst hkd
          go_wp2_with fail
          rw [HT.out]
          refine (refNumber_any _ _ HTS.out).mono ?_
          rintro e w' ⟨rfl, rfl⟩
          rw [HRN.out]
          go_wp2_with fail
          rw [HRR.out]
          refine (refUnit_any 4 _ _).mono ?_
          rintro e w' ⟨rfl, rfl⟩
          rw [HU.out]
          go_wp2_with fail
          refine (refMost_any 4 _).mono ?_
          rintro e w' ⟨rfl, rfl⟩
          rw [show mostV 4 = 1099511627776 from rfl]
          go_wp2
          exact bodyPost_ret (v := .tuple #[.agg #[.int .i64 0, .int .i64 0, .string ⟨#[]⟩, .slice none 0 0], .int .i64 41]) (by simp [results, Tryz.results115, go_sem]) rfl ⟨ret_val (by rw [HV.out]; rfl), (Below.refl _ _).alloc (Nat.le_refl _) _⟩
    · have hCN : C = N := by rw [← hC]; exact cap_small (by omega)
      have hg2 : ¬ (1099511627776 / u < (C : Int)) := by rw [hCN]; exact hg
      have hm := mul_le_of u1 (Int.not_lt.1 hg2)
      have hm0 : 0 ≤ (C : Int) * u := Int.mul_nonneg q1 hu0
      have d1 : decide (1099511627776 / u < (C : Int)) = false := decide_eq_false hg2
      have d2 : decide ((1099511627776 : Int).tdiv u < (C : Int)) = false := decide_eq_false (by rw [tdiv_of (by decide)]; exact hg2)
      have HV : Hid (intOk 4 (unitedV 4 s.data.toList) = (⟨4, (C : Int) * u, ⟨#[]⟩, []⟩, 0)) := Lib.hid (by rw [HW.out, if_neg hz, if_neg hg, hCN]; rfl)
      have hwr : IntKind.i64.wrap ((C : Int) * u) = (C : Int) * u := IntWalk.i64_in _ (by omega)
      clear hg hg2 hz hW hsp hdm hCN hd hT hr hN hC hok hu hX hY h48
      go_enter Tryz.func115, Tryz.ntmps115
      go_wp2
      go_loop [6] (fun i => ∃ k : Nat, i = .int .i64 k ∧ k ≤ s.size ∧ Hid (nDig s.data.toList = k + nDig (s.data.toList.drop k))) (fun i => s.size - (intOf i).toNat)
      case atStart => exact ⟨0, rfl, by omega, Lib.hid (by simp)⟩
      case round =>
        obtain ⟨k, rfl, hk, HK⟩ := hrel
        by_cases hlt : k < s.size
        · have hat := nDig_at hlt
          have hb := byte_le s k hlt
          by_cases hdg : isD s[k] = true
          · have HX : Hid (nDig s.data.toList = (k + 1) + nDig (s.data.toList.drop (k + 1))) := Lib.hid (by rw [HK.out, hat, if_pos hdg]; omega)
            obtain ⟨hd1, hd2⟩ : 48 ≤ s[k].toNat ∧ s[k].toNat ≤ 57 := by simpa [isD] using hdg
            have t1 : decide ((48 : Int) ≤ s[k].toNat) = true := decide_eq_true (by omega)
            have t2 : decide ((s[k].toNat : Int) ≤ 57) = true := decide_eq_true (by omega)
            clear hat hdg
            go_wp2
            go_round
            case rel => exact ⟨k + 1, by go_num, by omega, HX⟩
            case measure => simp [intOf]; omega
          · have hkd : k = d := by have := HK.out; rw [hat, if_neg hdg, HDD.out] at this; omega
            have hno : s[k].toNat < 48 ∨ (48 ≤ s[k].toNat ∧ 57 < s[k].toNat) := by simp [isD] at hdg; omega
            clear hat hdg
            subst hkd
            rcases hno with h | ⟨h, h'⟩
            · have t1 : decide ((48 : Int) ≤ s[k].toNat) = false := decide_eq_false (by omega)
              go_wp2_with fail
              rw [HT.out]
              refine (refNumber_any _ _ HTS.out).mono ?_
              rintro e w' ⟨rfl, rfl⟩
              rw [HRN.out]
              go_wp2_with fail
              rw [HRR.out]
              refine (refUnit_any 4 _ _).mono ?_
              rintro e w' ⟨rfl, rfl⟩
              rw [HU.out]
              go_wp2_with fail
              refine (refMost_any 4 _).mono ?_
              rintro e w' ⟨rfl, rfl⟩
              rw [show mostV 4 = 1099511627776 from rfl]
              go_wp2
              exact bodyPost_ret (v := .tuple #[.agg #[.int .i64 4, .int .i64 ((C : Int) * u), .string ⟨#[]⟩, .slice none 0 0], .int .i64 0]) (by simp [results, Tryz.results115, go_sem]) rfl ⟨ret_val (by rw [HV.out]; rfl), (Below.refl _ _).alloc (Nat.le_refl _) _⟩
            · have t1 : decide ((48 : Int) ≤ s[k].toNat) = true := decide_eq_true (by omega)
              have t2 : decide ((s[k].toNat : Int) ≤ 57) = false := decide_eq_false (by omega)
              go_wp2_with fail
              rw [HT.out]
              refine (refNumber_any _ _ HTS.out).mono ?_
              rintro e w' ⟨rfl, rfl⟩
              rw [HRN.out]
              go_wp2_with fail
              rw [HRR.out]
              refine (refUnit_any 4 _ _).mono ?_
              rintro e w' ⟨rfl, rfl⟩
              rw [HU.out]
              go_wp2_with fail
              refine (refMost_any 4 _).mono ?_
              rintro e w' ⟨rfl, rfl⟩
              rw [show mostV 4 = 1099511627776 from rfl]
              go_wp2
              exact bodyPost_ret (v := .tuple #[.agg #[.int .i64 4, .int .i64 ((C : Int) * u), .string ⟨#[]⟩, .slice none 0 0], .int .i64 0]) (by simp [results, Tryz.results115, go_sem]) rfl ⟨ret_val (by rw [HV.out]; rfl), (Below.refl _ _).alloc (Nat.le_refl _) _⟩
        · have hkd : k = d := by have := HK.out; rw [List.drop_eq_nil_of_le (by rw [size_data]; omega), HDD.out] at this; simp [nDig] at this; omega
          subst hkd
          go_wp2_with fail
          rw [HT.out]
          refine (refNumber_any _ _ HTS.out).mono ?_
          rintro e w' ⟨rfl, rfl⟩
          rw [HRN.out]
          go_wp2_with fail
          rw [HRR.out]
          refine (refUnit_any 4 _ _).mono ?_
          rintro e w' ⟨rfl, rfl⟩
          rw [HU.out]
          go_wp2_with fail
          refine (refMost_any 4 _).mono ?_
          rintro e w' ⟨rfl, rfl⟩
          rw [show mostV 4 = 1099511627776 from rfl]
          go_wp2
          exact bodyPost_ret (v := .tuple #[.agg #[.int .i64 4, .int .i64 ((C : Int) * u), .string ⟨#[]⟩, .slice none 0 0], .int .i64 0]) (by simp [results, Tryz.results115, go_sem]) rfl ⟨ret_val (by rw [HV.out]; rfl), (Below.refl _ _).alloc (Nat.le_refl _) _⟩

theorem allText_at {s : ByteArray} {k : Nat} (h : k < s.size) (hp : allText (s.data.toList.take k) = true) : (printB s[k].toNat = false → allText s.data.toList = false) ∧ (printB s[k].toNat = true → allText (s.data.toList.take (k + 1)) = true) := by
  have e : s.data.toList.take (k + 1) = s.data.toList.take k ++ [s[k]] := by
    rw [List.take_succ_eq_append_getElem (by simpa using h)]; rfl
  constructor
  · intro hc
    cases hq : allText s.data.toList with
    | false => rfl
    | true =>
      have hm : s[k] ∈ s.data.toList := by simp [ByteArray.getElem_eq_getElem_data]
      have := List.all_eq_true.1 hq _ hm
      rw [hc] at this; cases this
  · intro hc
    unfold allText at hp ⊢
    rw [e, List.all_append, hp]; simp [hc]

set_option maxHeartbeats 800000 in
set_option maxRecDepth 100000 in
theorem refText_any (s : ByteArray) (w : World) (hs : s.size ≤ maxLen) :
    Calls Tryz.prog 116 #[.string s] w fun e w' => e = .returned (numR (textR s)) ∧ Below w.heap.size w w' := by
  unfold maxLen at hs
  have HC := Lib.hid (textV_cases s)
  go_enter Tryz.func116, Tryz.ntmps116
  go_wp2
  go_loop [4] (fun i => ∃ k : Nat, i = .int .i64 k ∧ k ≤ s.size ∧ Hid (allText (s.data.toList.take k) = true)) (fun i => s.size - (intOf i).toNat)
  case atStart => exact ⟨0, rfl, by omega, Lib.hid rfl⟩
  case round =>
    obtain ⟨k, rfl, hk, HK⟩ := hrel
    by_cases hlt : k < s.size
    · obtain ⟨h1, h2⟩ := allText_at hlt HK.out
      have hb := byte_le s k hlt
      by_cases hp : printB s[k].toNat = true
      · have HX := Lib.hid (h2 hp)
        obtain ⟨hd1, hd2⟩ : 32 ≤ s[k].toNat ∧ s[k].toNat ≤ 126 := by simp [printB] at hp; omega
        have t1 : decide ((s[k].toNat : Int) < 32) = false := decide_eq_false (by omega)
        have t2 : decide (126 < (s[k].toNat : Int)) = false := decide_eq_false (by omega)
        clear h1 h2 hp
        go_wp2
        go_round
        case rel => exact ⟨k + 1, by go_num, by omega, HX⟩
        case measure => simp [intOf]; omega
      · have hA := h1 (by simpa using hp)
        have HV : Hid (textR s = (zeroV, 40)) := Lib.hid (by unfold textR textV; rw [hA]; rfl)
        have hno : s[k].toNat < 32 ∨ (32 ≤ s[k].toNat ∧ 126 < s[k].toNat) := by simp [printB] at hp; omega
        clear h1 h2 hp hA
        rcases hno with h | ⟨h, h'⟩
        · have t1 : decide ((s[k].toNat : Int) < 32) = true := decide_eq_true (by omega)
          go_wp2
          exact bodyPost_ret (v := .tuple #[.agg #[.int .i64 0, .int .i64 0, .string ⟨#[]⟩, .slice none 0 0], .int .i64 40]) (by simp [results, Tryz.results116, go_sem]) rfl ⟨ret_val (by rw [HV.out]; rfl), (Below.refl _ _).alloc (Nat.le_refl _) _⟩
        · have t1 : decide ((s[k].toNat : Int) < 32) = false := decide_eq_false (by omega)
          have t2 : decide (126 < (s[k].toNat : Int)) = true := decide_eq_true (by omega)
          go_wp2
          exact bodyPost_ret (v := .tuple #[.agg #[.int .i64 0, .int .i64 0, .string ⟨#[]⟩, .slice none 0 0], .int .i64 40]) (by simp [results, Tryz.results116, go_sem]) rfl ⟨ret_val (by rw [HV.out]; rfl), (Below.refl _ _).alloc (Nat.le_refl _) _⟩
    · have hA : allText s.data.toList = true := by have := HK.out; rwa [List.take_of_length_le (by rw [size_data]; omega)] at this
      have hcs := HC.out
      rw [hA] at hcs
      rcases hcs with ⟨h, _⟩ | ⟨_, hl, hv⟩ | ⟨_, hl, hv⟩
      · cases h
      · have HV : Hid (textR s = (zeroV, 42)) := Lib.hid (by unfold textR; rw [hv]; rfl)
        have t1 : decide (200 < (s.size : Int)) = true := decide_eq_true (by omega)
        clear hA hv
        go_wp2
        exact bodyPost_ret (v := .tuple #[.agg #[.int .i64 0, .int .i64 0, .string ⟨#[]⟩, .slice none 0 0], .int .i64 42]) (by simp [results, Tryz.results116, go_sem]) rfl ⟨ret_val (by rw [HV.out]; rfl), (Below.refl _ _).alloc (Nat.le_refl _) _⟩
      · have HV : Hid (textR s = (⟨5, 0, s, []⟩, 0)) := Lib.hid (by unfold textR; rw [hv]; rfl)
        have t1 : decide (200 < (s.size : Int)) = false := decide_eq_false (by omega)
        clear hA hv
        go_wp2
        exact bodyPost_ret (v := .tuple #[.agg #[.int .i64 5, .int .i64 0, .string s, .slice none 0 0], .int .i64 0]) (by simp [results, Tryz.results116, go_sem]) rfl ⟨ret_val (by rw [HV.out]; rfl), (Below.refl _ _).alloc (Nat.le_refl _) _⟩
end Go.Proofs.YtbgoooljkdjjhaaGreatDoor
