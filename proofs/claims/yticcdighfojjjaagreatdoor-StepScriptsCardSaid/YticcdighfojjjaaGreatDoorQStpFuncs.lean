/-
  StpFuncs.
-/
import Derived.Test.YticcdighfojjjaaGreatDoorQStpDoes
import Derived.Test.YticcdighfojjjaaGreatDoorQGlyphNames2
import Derived.Test.YticcdighfojjjaaGreatDoorQMarks
import Derived.Deep.RegionHeld3
import Derived.IntWalk
namespace Go.Proofs.YticcdighfojjjaaGreatDoor
open Go.ChangeShapes Go.WideShapes Go.ChangeAt Go.RowKit

theorem sdigit_cut (d : Nat) (h : d < 10) : (⟨#[48, 49, 50, 51, 52, 53, 54, 55, 56, 57]⟩ : ByteArray).extract d (d + 1) = mkB [UInt8.ofNat (48 + d)] := by
  rcases d with _ | _ | _ | _ | _ | _ | _ | _ | _ | _ | d
  all_goals first | rfl | omega
theorem srun_cut (d : Nat) (h : d < 10) (W : World) : (Instr.slice 9 (.string ⟨#[48, 49, 50, 51, 52, 53, 54, 55, 56, 57]⟩) (some (.int .i64 (d : Int))) (some (.int .i64 ((d : Int) + 1))) none).run Tryz.prog W = .ok (.string (mkB [UInt8.ofNat (48 + d)])) W := by
  have := run_slice_string (P := Tryz.prog) W 9 (⟨#[48, 49, 50, 51, 52, 53, 54, 55, 56, 57]⟩ : ByteArray) .i64 .i64 (d : Int) ((d : Int) + 1) Tryz.underlying9 (by omega) (by omega) (by show (d : Int) + 1 ≤ 10; omega)
  rw [this, show ((d : Int) + 1).toNat = d + 1 by omega, Int.toNat_natCast, sdigit_cut d h]
theorem mkB_app (a b : List UInt8) : mkB (a ++ b) = mkB a ++ mkB b := by
  have : (mkB (a ++ b)).data = (mkB a ++ mkB b).data := by
    rw [ByteArray.data_append]; unfold mkB; simp
  exact ByteArray.ext this
theorem sdec_more {u Q D : Nat} (h : ¬ u < 10) (hq : u / 10 = Q) (hd : u % 10 = D) : mkB (Lib.decDigits u) = mkB (Lib.decDigits Q) ++ mkB [UInt8.ofNat (48 + D)] := by
  rw [Lib.decDigits, dif_neg h, hq, hd, mkB_app]
theorem ret_valS {a b : Value} (h : a = b) : Ending.returned a = .returned b := by rw [h]

set_option maxHeartbeats 1600000 in
set_option maxRecDepth 100000 in
theorem sdigits_any (u : Nat) : u ≤ 4294967296 → ∀ w : World, Calls Tryz.prog 51 #[.int .i64 (u : Int)] w fun e w' => e = .returned (.string (mkB (Lib.decDigits u))) ∧ Below w.heap.size w w' := by
  induction u using Nat.strongRecOn with
  | _ u ih =>
    intro hu w
    by_cases h : u < 10
    · have q1 : (0 : Int) ≤ u := by omega
      have q2 : (u : Int) < 10 := by omega
      have hc := srun_cut u h
      have hv : mkB (Lib.decDigits u) = mkB [UInt8.ofNat (48 + u)] := by rw [Lib.decDigits_one h]
      generalize mkB [UInt8.ofNat (48 + u)] = B at hc hv
      have HV := Lib.hid hv
      clear hv
      clear ih hu
      go_enter Tryz.func51, Tryz.ntmps51
      go_wp2
      go_ret
      exact ⟨ret_valS (by rw [HV.out]; rfl), Below.refl _ _⟩
    · obtain ⟨Q, hQ⟩ : ∃ Q, u / 10 = Q := ⟨_, rfl⟩
      obtain ⟨D, hD⟩ : ∃ D, u % 10 = D := ⟨_, rfl⟩
      have hv := sdec_more h hQ hD
      have hih := ih Q (by omega) (by omega)
      have hDl : D < 10 := by omega
      have q1 : (0 : Int) ≤ u := by omega
      have q2 : ¬ (u : Int) < 10 := by omega
      have e1 : Int.tdiv (u : Int) 10 = (Q : Int) := by rw [Int.tdiv_eq_ediv_of_nonneg q1]; omega
      have e2 : Int.tmod (u : Int) 10 = (D : Int) := by rw [Int.tmod_eq_emod_of_nonneg q1]; omega
      have w1 : IntKind.i64.wrap (Q : Int) = Q := IntWalk.i64_in _ (by omega)
      have w2 : IntKind.i64.wrap (D : Int) = D := IntWalk.i64_in _ (by omega)
      have w3 : IntKind.i64.wrap ((D : Int) + 1) = D + 1 := IntWalk.i64_in _ (by omega)
      have q3 : (0 : Int) ≤ D := by omega
      have q4 : (D : Int) + 1 ≤ 10 := by omega
      have hc := srun_cut D hDl
      have hcat : ¬ (9223372036854775807 < (mkB (Lib.decDigits Q)).size + (mkB [UInt8.ofNat (48 + D)]).size) := by
        rw [mkBlen, mkBlen]
        have h1 := dec_digits Q (by omega)
        simp only [List.length_singleton]; omega
      generalize mkB [UInt8.ofNat (48 + D)] = B at hc hcat hv
      generalize mkB (Lib.decDigits Q) = P at hcat hv hih
      have HV := Lib.hid hv
      have HIH := Lib.hid hih
      clear ih h hQ hD hv hih
      go_enter Tryz.func51, Tryz.ntmps51
      go_wp2
      go_region_held3 (fun _ => True) (trivial) (first | (go_at_call 51; (with_reducible refine (HIH.out _).mono ?_); rintro e w2 ⟨rfl, hb2⟩))
      all_goals
        go_wp2
        go_ret
        exact ⟨ret_valS (by rw [HV.out]; rfl), ((Below.refl _ w).drew).trans (hb2.mono (Nat.le_refl _))⟩

theorem decAcc_low (n : Nat) (l : List UInt8) : n * 10 ^ l.length ≤ decAcc n l := by
  induction l generalizing n with
  | nil => rw [decAcc_nil]; simp
  | cons c r ih =>
    rw [decAcc_cons]
    refine Nat.le_trans ?_ (ih (decS n c))
    rw [decS_eq, List.length_cons, Nat.pow_succ]
    calc n * (10 ^ r.length * 10) = (n * 10) * 10 ^ r.length := by rw [Nat.mul_comm (10 ^ r.length) 10, Nat.mul_assoc]
      _ ≤ (n * 10 + (c.toNat - 48)) * 10 ^ r.length := Nat.mul_le_mul_right _ (by omega)
theorem decAcc_up (n : Nat) (l : List UInt8) (h : l.all isD = true) : decAcc n l < (n + 1) * 10 ^ l.length := by
  induction l generalizing n with
  | nil => rw [decAcc_nil]; simp
  | cons c r ih =>
    rw [List.all_cons, Bool.and_eq_true] at h
    rw [decAcc_cons]
    have hc : c.toNat ≤ 57 := by have := h.1; unfold isD at this; simp at this; omega
    refine Nat.lt_of_lt_of_le (ih _ h.2) ?_
    rw [decS_eq, List.length_cons, Nat.pow_succ, Nat.mul_comm (10 ^ r.length) 10, ← Nat.mul_assoc]
    exact Nat.mul_le_mul_right _ (by omega)
theorem num_long {l : List UInt8} (h : 10 < l.length) : ¬ (numOk l = true ∧ dec l ≤ 2147483648) := by
  rintro ⟨h1, h2⟩
  cases l with
  | nil => simp at h
  | cons c r =>
    have hr : r ≠ [] := by rintro rfl; simp at h
    unfold numOk at h1
    simp only [Bool.and_eq_true, List.all_cons, Bool.or_eq_true, bne_iff_ne, List.isEmpty_iff] at h1
    obtain ⟨⟨hd, _⟩, hc⟩ := h1
    have hc := hc.resolve_right hr
    have hc1 : 49 ≤ c.toNat := by
      unfold isD at hd
      simp at hd
      have : c.toNat ≠ 48 := fun e => hc (by apply UInt8.toNat.inj; rw [e]; rfl)
      omega
    unfold dec at h2
    rw [decAcc_cons] at h2
    have := decAcc_low (decS 0 c) r
    rw [decS_eq] at this h2
    have h10 : 10 ^ 10 ≤ 10 ^ r.length := Nat.pow_le_pow_right (by decide) (by simp at h; omega)
    have h11 : 1 * 10 ^ r.length ≤ (0 * 10 + (c.toNat - 48)) * 10 ^ r.length := Nat.mul_le_mul_right _ (by omega)
    omega
theorem double_no {l : List UInt8} (h : ¬ (numOk l = true ∧ dec l ≤ 2147483648)) : doubleV l = (emB, 162) := if_neg h
theorem double_yes {l : List UInt8} (h : numOk l = true ∧ dec l ≤ 2147483648) : doubleV l = (mkB (Lib.decDigits (2 * dec l)), 0) := if_pos h
theorem all_take {l : List UInt8} {k : Nat} (hk : k < l.length) (h : (l.take k).all isD = true) (hc : isD l[k] = true) : (l.take (k + 1)).all isD = true := by
  rw [List.take_add_one, List.getElem?_eq_getElem hk, List.all_append, h]; simp [hc]
theorem dec_take {l : List UInt8} {k : Nat} (hk : k < l.length) : dec (l.take (k + 1)) = dec (l.take k) * 10 + (l[k].toNat - 48) := by
  unfold dec
  rw [List.take_add_one, List.getElem?_eq_getElem hk, decAcc_append]
  show decAcc _ [l[k]] = _
  rw [decAcc_cons, decAcc_nil, decS_eq]
set_option maxHeartbeats 1600000 in
set_option maxRecDepth 100000 in
theorem sdouble_any (s : ByteArray) (w : World) (hs : s.size ≤ maxLen) :
    Calls Tryz.prog 32 #[.string s] w fun e w' => e = .returned (.tuple #[.string (doubleV s.data.toList).1, .int .i64 (doubleV s.data.toList).2]) ∧ Below w.heap.size w w' := by
  unfold maxLen at hs
  have hl := data_len s
  have hse : (s.toList == []) = decide (s.size = 0) := by
    rw [Bool.eq_iff_iff, decide_eq_true_iff, beq_iff_eq, Lib.toList_data]
    exact ⟨fun e => by rw [e] at hl; exact hl.symm, fun e => List.eq_nil_of_length_eq_zero (by omega)⟩
  by_cases h0 : s.size = 0
  · have hv : doubleV s.data.toList = (emB, 162) := double_no (by
      have : s.data.toList = [] := List.eq_nil_of_length_eq_zero (by omega)
      rw [this]; rintro ⟨h, _⟩; cases h)
    rw [hv]
    have g1 : (s.toList == []) = true := by rw [hse]; simp [h0]
    have g2 : s.toList.isEmpty = true := by simpa using g1
    clear hv hse hl h0
    go_enter Tryz.func32, Tryz.ntmps32
    go_wp2
    go_ret2
    exact ⟨rfl, Below.refl _ _⟩
  have g1 : (s.toList == []) = false := by rw [hse]; simp [h0]
  have g2 : s.toList.isEmpty = false := by simpa using g1
  clear hse
  by_cases h1 : 10 < s.size
  · rw [double_no (num_long (by omega))]
    clear hl h0
    go_enter Tryz.func32, Tryz.ntmps32
    go_wp2
    go_ret2
    exact ⟨rfl, Below.refl _ _⟩
  have g3 : ¬ (10 : Int) < s.size := by omega
  have q00 : (0 : Int) < s.size := by omega
  have hp0 : 0 < s.size := by omega
  by_cases h2 : 1 < s.size ∧ s[0].toNat = 48
  · have hv : doubleV s.data.toList = (emB, 162) := double_no (by
      rintro ⟨h, _⟩
      have e := drop_byte s 0 hp0
      rw [List.drop_zero] at e
      rw [e] at h
      unfold numOk at h
      have hlen := congrArg List.length e
      rw [List.length_cons] at hlen
      simp only [Bool.and_eq_true, Bool.or_eq_true, bne_iff_ne, List.isEmpty_iff] at h
      rcases h.2 with h | h
      · exact h (by apply UInt8.toNat.inj; rw [h2.2]; rfl)
      · rw [h] at hlen; simp at hlen; omega)
    rw [hv]
    obtain ⟨h3, h4⟩ := h2
    have g4 : (1 : Int) < s.size := by omega
    have g5 : ((s[0].toNat : Int) == 48) = true := by rw [beq_iff_eq]; omega
    clear hv hl h0 h1 h3
    go_enter Tryz.func32, Tryz.ntmps32
    go_wp2
    go_ret2
    exact ⟨rfl, Below.refl _ _⟩
  have HNUM : Hid (s.data.toList.all isD = true → numOk s.data.toList = true) := Lib.hid (by
    intro ha
    unfold numOk
    rw [ha, Bool.true_and]
    have e := drop_byte s 0 hp0
    rw [List.drop_zero] at e
    rw [e]
    have hlen := congrArg List.length e
    rw [List.length_cons] at hlen
    simp only [Bool.or_eq_true, bne_iff_ne, List.isEmpty_iff]
    by_cases h3 : 1 < s.size
    · exact .inl fun e48 => h2 ⟨h3, by rw [e48]; rfl⟩
    · exact .inr (List.eq_nil_of_length_eq_zero (by omega)))
  have HL := Lib.hid hl
  have hsz : s.size ≤ 10 := by omega
  have key : (¬ (1 : Int) < s.size) ∨ ((1 : Int) < s.size ∧ ((s[0].toNat : Int) == 48) = false) := by
    by_cases h3 : 1 < s.size
    · exact .inr ⟨by omega, by rw [beq_eq_false_iff_ne]; intro e; exact h2 ⟨h3, by omega⟩⟩
    · exact .inl (by omega)
  clear h2 hl h0 h1
  have go : ∀ (Q : Prop), Q → Q := fun _ h => h
  rcases key with g4 | ⟨g4, g5⟩
  all_goals
    go_enter Tryz.func32, Tryz.ntmps32
    go_wp2
    go_loop [4, 5] (fun n i => ∃ k m : Nat, n = .int .i64 m ∧ i = .int .i64 k ∧ k ≤ s.size ∧ m ≤ 10000000000 ∧ Hid ((s.data.toList.take k).all isD = true ∧ dec (s.data.toList.take k) = m)) (fun _ i => s.size - (intOf i).toNat)
    case atStart => exact ⟨0, 0, rfl, rfl, by omega, by omega, Lib.hid ⟨by simp, rfl⟩⟩
    case round =>
      obtain ⟨k, m, rfl, rfl, hk, hm, HI⟩ := hrel
      by_cases hlt : k < s.size
      · have hby := byte_le s k hlt
        have q1 : (k : Int) < s.size := by omega
        have HK : Hid (s.data.toList[k]'(by rw [HL.out]; exact hlt) = s[k]) := Lib.hid rfl
        by_cases hd : 48 ≤ s[k].toNat ∧ s[k].toNat ≤ 57
        · have hc : isD s[k] = true := by unfold isD; simpa using hd
          have H2 : Hid ((s.data.toList.take (k + 1)).all isD = true ∧ dec (s.data.toList.take (k + 1)) = 10 * m + (s[k].toNat - 48)) := Lib.hid (by
            have hkl : k < s.data.toList.length := by rw [HL.out]; exact hlt
            refine ⟨all_take hkl HI.out.1 (by rw [HK.out]; exact hc), ?_⟩
            rw [dec_take hkl, HK.out, HI.out.2]; omega)
          have hm9 : m < 10 ^ k := by
            have := decAcc_up 0 (s.data.toList.take k) HI.out.1
            rw [List.length_take, HL.out] at this
            have hmin : min k s.size = k := by omega
            rw [hmin] at this
            rw [← HI.out.2]; unfold dec; omega
          have hm10 : m ≤ 999999999 := by
            have : 10 ^ k ≤ 10 ^ 9 := Nat.pow_le_pow_right (by decide) (by omega)
            omega
          clear hm9 HI
          have g6 : ¬ (s[k].toNat : Int) < 48 := by omega
          have g7 : ¬ (57 : Int) < s[k].toNat := by omega
          have w1 : IntKind.i64.wrap (10 * (m : Int)) = 10 * m := IntWalk.i64_in _ (by omega)
          have w2 : IntKind.u8.wrap ((s[k].toNat : Int) - 48) = (s[k].toNat : Int) - 48 := IntWalk.u8_in _ (by omega)
          have w3 : IntKind.i64.wrap ((s[k].toNat : Int) - 48) = (s[k].toNat : Int) - 48 := IntWalk.i64_in _ (by omega)
          have w4 : IntKind.i64.wrap (10 * (m : Int) + ((s[k].toNat : Int) - 48)) = 10 * m + ((s[k].toNat : Int) - 48) := IntWalk.i64_in _ (by omega)
          go_wp2
          go_round
          case rel => exact ⟨k + 1, 10 * m + (s[k].toNat - 48), by congr 1; omega, by go_num, by omega, by omega, H2⟩
          case measure => simp [intOf]; omega
        · have HV : Hid (doubleV s.data.toList = (emB, 162)) := Lib.hid (double_no (by
            rintro ⟨h, _⟩
            unfold numOk at h
            rw [Bool.and_eq_true, List.all_eq_true] at h
            have := h.1 s[k] (by rw [← HK.out]; exact List.getElem_mem _)
            unfold isD at this
            exact hd (by simpa using this)))
          have hor : (s[k].toNat : Int) < 48 ∨ (¬ (s[k].toNat : Int) < 48 ∧ (57 : Int) < s[k].toNat) := by omega
          rcases hor with g6 | ⟨g6, g7⟩
          all_goals
            go_wp2
            go_ret2
            exact ⟨by rw [HV.out]; rfl, Below.refl _ _⟩
      · have q1 : ¬ (k : Int) < s.size := by omega
        have HE : Hid (s.data.toList.all isD = true ∧ dec s.data.toList = m) := Lib.hid (by
          have := HI.out
          rwa [List.take_of_length_le (by rw [HL.out]; omega)] at this)
        by_cases hbig : 2147483648 < m
        · have HV : Hid (doubleV s.data.toList = (emB, 162)) := Lib.hid (double_no (by rintro ⟨_, h⟩; have := HE.out.2; omega))
          go_wp2
          go_ret2
          exact ⟨by rw [HV.out]; rfl, Below.refl _ _⟩
        · have HV : Hid (doubleV s.data.toList = (mkB (Lib.decDigits (2 * m)), 0)) := Lib.hid (by rw [double_yes ⟨HNUM.out HE.out.1, by have := HE.out.2; omega⟩, HE.out.2])
          have HDG := Lib.hid (sdigits_any (2 * m) (by omega))
          have g8 : ¬ (2147483648 : Int) < m := by omega
          have w1 : IntKind.i64.wrap (2 * (m : Int)) = ((2 * m : Nat) : Int) := by rw [IntWalk.i64_in _ (by omega)]; omega
          go_wp2_with (go_at_call 51; refine (HDG.out _).mono ?_; rintro e w' ⟨rfl, hb⟩)
          go_ret2
          exact ⟨by rw [HV.out]; rfl, hb⟩
theorem sblank_any (c : UInt8) (w : World) : Calls Tryz.prog 34 #[.int .u8 (c.toNat : Int)] w fun e w' => e = .returned (.bool (blankC c)) ∧ w = w' := by
  by_cases h1 : (c.toNat : Int) = 32
  · have hv : blankC c = true := by simp [blankC, h1]
    rw [hv]
    have g1 : ((c.toNat : Int) == 32) = true := beq_iff_eq.2 h1
    clear hv h1
    go_enter Tryz.func34, Tryz.ntmps34
    go_wp2
    go_ret
    exact ⟨rfl, rfl⟩
  have g1 : ((c.toNat : Int) == 32) = false := beq_eq_false_iff_ne.2 h1
  by_cases h2 : (c.toNat : Int) = 9
  · have hv : blankC c = true := by simp [blankC, h2]
    rw [hv]
    have g2 : ((c.toNat : Int) == 9) = true := beq_iff_eq.2 h2
    clear hv h1 h2
    go_enter Tryz.func34, Tryz.ntmps34
    go_wp2
    go_ret
    exact ⟨rfl, rfl⟩
  have hv : blankC c = false := by simp [blankC, h1, h2]
  rw [hv]
  have g2 : ((c.toNat : Int) == 9) = false := beq_eq_false_iff_ne.2 h2
  clear hv h1 h2
  go_enter Tryz.func34, Tryz.ntmps34
  go_wp2
  go_ret
  exact ⟨rfl, rfl⟩
end Go.Proofs.YticcdighfojjjaaGreatDoor
