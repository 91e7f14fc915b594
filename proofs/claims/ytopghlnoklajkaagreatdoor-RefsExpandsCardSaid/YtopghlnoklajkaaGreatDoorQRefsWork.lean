/-
  ValueRefDigits, ValueRefGreat, ValueRefPrint, RefsWork.
-/
import Derived.Test.YtopghlnoklajkaaGreatDoorQValuePrint
import Derived.Test.YtopghlnoklajkaaGreatDoorQValueUnited
import Derived.Deep.RegionHeld3
import Derived.IntWalk
import Derived.Test.YtopghlnoklajkaaGreatDoorQValueRefRight2
import Derived.Test.YtopghlnoklajkaaGreatDoorQSetOwn
import Derived.Test.YtopghlnoklajkaaGreatDoorQRefsPieces
namespace Go.Proofs.YtopghlnoklajkaaGreatDoor
open Go.ChangeShapes Go.WideShapes Go.ChangeAt Go.RowKit

theorem digit_cut (d : Nat) (h : d < 10) : (⟨#[48, 49, 50, 51, 52, 53, 54, 55, 56, 57]⟩ : ByteArray).extract d (d + 1) = mkB [UInt8.ofNat (48 + d)] := by
 rcases d with _ | _ | _ | _ | _ | _ | _ | _ | _ | _ | d
 all_goals first | rfl | omega
theorem run_cut (d : Nat) (h : d < 10) (W : World) : (Instr.slice 9 (.string ⟨#[48, 49, 50, 51, 52, 53, 54, 55, 56, 57]⟩) (some (.int .i64 (d : Int))) (some (.int .i64 ((d : Int) + 1))) none).run Tryz.prog W = .ok (.string (mkB [UInt8.ofNat (48 + d)])) W := by
 have := run_slice_string (P := Tryz.prog) W 9 (⟨#[48, 49, 50, 51, 52, 53, 54, 55, 56, 57]⟩ : ByteArray) .i64 .i64 (d : Int) ((d : Int) + 1) Tryz.underlying9 (by omega) (by omega) (by show (d : Int) + 1 ≤ 10; omega)
 rw [this, show ((d : Int) + 1).toNat = d + 1 by omega, Int.toNat_natCast, digit_cut d h]
theorem dec_len (u : Nat) (h : u ≤ 4611686018427387904) : (mkB (Lib.decDigits u)).size ≤ 20 := by
 have := itoa_len (u : Int) (by omega) (by omega)
 unfold Lib.itoa at this
 rw [if_neg (by omega), Int.toNat_natCast] at this
 rw [mkB_size]; exact this
theorem dec_more {u Q D : Nat} (h : ¬ u < 10) (hq : u / 10 = Q) (hd : u % 10 = D) : mkB (Lib.decDigits u) = mkB (Lib.decDigits Q) ++ mkB [UInt8.ofNat (48 + D)] := by
 rw [Lib.decDigits, dif_neg h, hq, hd, mkB_append]

set_option maxHeartbeats 1600000 in
set_option maxRecDepth 100000 in
theorem digitsNat_any (u : Nat) : u ≤ 4611686018427387904 → ∀ w : World, Calls Tryz.prog 138 #[.int .i64 (u : Int)] w fun e w' => e = .returned (.string (mkB (Lib.decDigits u))) ∧ Below w.heap.size w w' := by
 induction u using Nat.strongRecOn with
 | _ u ih =>
  intro hu w
  by_cases h : u < 10
  ·have q1 : (0 : Int) ≤ u := by omega
   have q2 : (u : Int) < 10 := by omega
   have hc := run_cut u h
   have hv : mkB (Lib.decDigits u) = mkB [UInt8.ofNat (48 + u)] := by rw [Lib.decDigits_one h]
   generalize mkB [UInt8.ofNat (48 + u)] = B at hc hv
   have HV := Lib.hid hv
   clear hv
   clear ih hu
   go_enter Tryz.func138, Tryz.ntmps138
   go_wp2
   go_ret
   exact ⟨ret_val (by rw [HV.out]; rfl), Below.refl _ _⟩
  ·obtain ⟨Q, hQ⟩ : ∃ Q, u / 10 = Q := ⟨_, rfl⟩
   obtain ⟨D, hD⟩ : ∃ D, u % 10 = D := ⟨_, rfl⟩
   have hv := dec_more h hQ hD
   have hih := ih Q (by omega) (by omega)
   have hDl : D < 10 := by omega
   have q1 : (0 : Int) ≤ u := by omega
   have q2 : ¬ (u : Int) < 10 := by omega
   have e1 : Int.tdiv (u : Int) 10 = (Q : Int) := by rw [Int.tdiv_eq_ediv_of_nonneg q1]; omega
   have e2 : Int.tmod (u : Int) 10 = (D : Int) := by rw [Int.tmod_eq_emod_of_nonneg q1]; omega
   have w1 : IntKind.i64.wrap (Q : Int) = Q := IntWalk.i64_in _ (by omega)
   have w2 : IntKind.i64.wrap (D : Int) = D := IntWalk.i64_in _ (by omega)
   have w3 : IntKind.i64.wrap ((D : Int) + 1) = D + 1 := IntWalk.i64_in _ (by omega)
   have q3 : (0 : Int) ≤ D := by omega
   have q4 : (D : Int) + 1 ≤ 10 := by omega
   have hc := run_cut D hDl
   have hcat : ¬ (9223372036854775807 < (mkB (Lib.decDigits Q)).size + (mkB [UInt8.ofNat (48 + D)]).size) := by have h1 := dec_len Q (by omega); have h2 : (mkB [UInt8.ofNat (48 + D)]).size = 1 := (by rw [mkB_size]; rfl); omega
   generalize mkB [UInt8.ofNat (48 + D)] = B at hc hcat hv
   generalize mkB (Lib.decDigits Q) = P at hcat hv hih
   have HV := Lib.hid hv
   have HIH := Lib.hid hih
   clear ih h hQ hD hv hih
   go_enter Tryz.func138, Tryz.ntmps138
   go_wp2
   go_region_held3 (fun _ => True) (trivial) (first | (go_at_call 138; (with_reducible refine (HIH.out _).mono ?_); rintro e w2 ⟨rfl, hb2⟩))
   all_goals
    go_wp2
    go_ret
    exact ⟨ret_val (by rw [HV.out]; rfl), (below_drewN w 1).trans (hb2.mono (Nat.le_refl _))⟩
theorem refDigits_any (n : Int) (h0 : -4611686018427387904 ≤ n) (h1 : n ≤ 4611686018427387904) (w : World) :
  Calls Tryz.prog 138 #[.int .i64 n] w fun e w' => e = .returned (.string (mkB (Lib.itoa n))) ∧ Below w.heap.size w w' := by
 by_cases hn : n < 0
 ·obtain ⟨m, rfl⟩ : ∃ m : Nat, n = -(m : Int) := ⟨n.natAbs, by omega⟩
  have HV : Hid (mkB (Lib.itoa (-(m : Int))) = (⟨#[45]⟩ : ByteArray) ++ mkB (Lib.decDigits m)) := Lib.hid (by
   unfold Lib.itoa
   rw [if_pos hn, show (-(m : Int)).natAbs = m by omega, show (⟨#[45]⟩ : ByteArray) = mkB [45] from rfl, mkB_append]; rfl)
  have HIH := Lib.hid (digitsNat_any m (by omega))
  have d1 : (-(m : Int)) < 0 := hn
  have d2 : (0 : Int) < m := by omega
  have hcat : ¬ (9223372036854775807 < (⟨#[45]⟩ : ByteArray).size + (mkB (Lib.decDigits m)).size) := by have h1 := dec_len m (by omega); have h2 : (⟨#[45]⟩ : ByteArray).size = 1 := rfl; omega
  clear hn
  go_enter Tryz.func138, Tryz.ntmps138
  go_wp2_with fail
  refine (HIH.out _).mono ?_
  rintro e w2 ⟨rfl, hb2⟩
  go_wp2
  go_ret
  exact ⟨ret_val (by rw [HV.out]; rfl), hb2⟩
 ·obtain ⟨m, rfl⟩ : ∃ m : Nat, n = (m : Int) := ⟨n.toNat, by omega⟩
  have hv : Lib.itoa (m : Int) = Lib.decDigits m := by unfold Lib.itoa; rw [if_neg hn, Int.toNat_natCast]
  rw [hv]
  exact digitsNat_any m (by omega) w
end Go.Proofs.YtopghlnoklajkaaGreatDoor

namespace Go.Proofs.YtopghlnoklajkaaGreatDoor
open Go.ChangeShapes Go.WideShapes Go.ChangeAt Go.RowKit

def no3 (n : Int) (k : Nat) : Prop := 0 < n → (0 < k → ¬ n % 1073741824 = 0) ∧ (1 < k → ¬ n % 1048576 = 0) ∧ (2 < k → ¬ n % 1024 = 0)
theorem great3_0 (n : Int) (hn : 0 < n) (h : no3 n 0) (hd : n % 1073741824 = 0) : unitFor 3 n = (1073741824, [103]) := by
 obtain ⟨h0, h1, h2⟩ := h hn
 unfold unitFor
 rw [if_pos rfl, if_pos ⟨hn, hd⟩]
theorem great3_1 (n : Int) (hn : 0 < n) (h : no3 n 1) (hd : n % 1048576 = 0) : unitFor 3 n = (1048576, [109]) := by
 obtain ⟨h0, h1, h2⟩ := h hn
 unfold unitFor
 rw [if_pos rfl, if_neg (fun h => h0 (by omega) h.2), if_pos ⟨hn, hd⟩]
theorem great3_2 (n : Int) (hn : 0 < n) (h : no3 n 2) (hd : n % 1024 = 0) : unitFor 3 n = (1024, [107]) := by
 obtain ⟨h0, h1, h2⟩ := h hn
 unfold unitFor
 rw [if_pos rfl, if_neg (fun h => h0 (by omega) h.2), if_neg (fun h => h1 (by omega) h.2), if_pos ⟨hn, hd⟩]
theorem great3_end (n : Int) (h : no3 n 3 ∨ ¬ 0 < n) : unitFor 3 n = (1, []) := by
 have h' : ∀ u : Int, (u = 1073741824 ∨ u = 1048576 ∨ u = 1024) → ¬ (0 < n ∧ n % u = 0) := by
  rintro u hu ⟨hn, hd⟩
  rcases h with h | h
  ·obtain ⟨h0, h1, h2⟩ := h hn
   rcases hu with rfl | rfl | rfl
   ·exact h0 (by omega) hd
   ·exact h1 (by omega) hd
   ·exact h2 (by omega) hd
  ·exact h hn
 unfold unitFor
 rw [if_pos rfl, if_neg (h' _ (Or.inl rfl)), if_neg (h' _ (Or.inr (Or.inl rfl))), if_neg (h' _ (Or.inr (Or.inr rfl)))]

set_option maxHeartbeats 3200000 in
set_option maxRecDepth 100000 in
theorem refGreat3_any (n : Int) (h0 : 0 ≤ n) (h1 : n ≤ 1125899906842624) (w : World) :
  Calls Tryz.prog 139 #[.int .i64 3, .int .i64 n, .string ⟨#[103, 109, 107]⟩] w fun e w' => e = .returned (.string (mkB (Lib.itoa (n / (unitFor 3 n).1) ++ (unitFor 3 n).2))) ∧ Below w.heap.size w w' := by
 obtain ⟨R, hR⟩ : ∃ R, mkB (Lib.itoa (n / (unitFor 3 n).1) ++ (unitFor 3 n).2) = R := ⟨_, rfl⟩
 have HR := Lib.hid hR
 rw [hR]
 clear hR
 have HS : Hid (no3 n 0) := Lib.hid (fun _ => ⟨fun h => by omega, fun h => by omega, fun h => by omega⟩)
 go_enter Tryz.func139, Tryz.ntmps139
 go_wp2
 go_loop [7] (fun i => ∃ k : Nat, i = .int .i64 k ∧ k ≤ 3 ∧ Hid (no3 n k)) (fun i => 3 - (intOf i).toNat)
 case atStart => exact ⟨0, rfl, by omega, HS⟩
 case round =>
  clear HS
  obtain ⟨k, rfl, hk, HK⟩ := hrel
  by_cases hfin : k = 3 ∨ ¬ 0 < n
  ·have HU := Lib.hid (great3_end n (hfin.imp (fun e => by subst e; exact HK.out) id))
   have HQ := Lib.hid (refDigits_any n (by omega) (by omega))
   have hsz : (mkB (Lib.itoa n)).size ≤ 20 := by rw [mkB_size]; exact itoa_len n (by omega) (by omega)
   have HV : Hid (R = mkB (Lib.itoa n)) := Lib.hid (by rw [← HR.out, HU.out]; simp only [Int.ediv_one]; rw [List.append_nil])
   generalize mkB (Lib.itoa n) = P at HQ HV hsz
   have hcat : ¬ (9223372036854775807 < P.size + (⟨#[115]⟩ : ByteArray).size) := by have h2 : (⟨#[115]⟩ : ByteArray).size = 1 := rfl; omega
   rcases hfin with rfl | hn
   ·clear HK hsz
    go_wp2_with fail
    refine (HQ.out _).mono ?_
    rintro e w2 ⟨rfl, hb2⟩
    go_wp2
    go_ret
    exact ⟨ret_val (by rw [HV.out]; rfl), hb2⟩
   ·have hn0 : n = 0 := by omega
    subst hn0
    clear HK hn hsz
    by_cases hk3 : k < 3
    ·have q1 : (k : Int) < 3 := by omega
     go_wp2_with fail
     refine (HQ.out _).mono ?_
     rintro e w2 ⟨rfl, hb2⟩
     go_wp2
     go_ret
     exact ⟨ret_val (by rw [HV.out]; rfl), hb2⟩
    ·have q1 : ¬ (k : Int) < 3 := by omega
     go_wp2_with fail
     refine (HQ.out _).mono ?_
     rintro e w2 ⟨rfl, hb2⟩
     go_wp2
     go_ret
     exact ⟨ret_val (by rw [HV.out]; rfl), hb2⟩
  have hn : 0 < n := by omega
  have hk3 : k < 3 := by omega
  clear hfin
  rcases k with _ | _ | _ | k
  rotate_right
  ·omega
  ·have hB1 : (⟨#[103]⟩ : ByteArray).size = 1 := rfl
   have hB2 := Lib.hid (show (⟨#[103]⟩ : ByteArray) = mkB [103] from rfl)
   have hcut : ∀ W : World, (Instr.slice 9 (.string ⟨#[103, 109, 107]⟩) (some (.int .i64 0)) (some (.int .i64 1)) none).run Tryz.prog W = .ok (.string ⟨#[103]⟩) W := fun W => run_slice_string (P := Tryz.prog) W 9 (⟨#[103, 109, 107]⟩ : ByteArray) .i64 .i64 0 1 Tryz.underlying9 (by decide) (by decide) (by decide)
   have HU : Hid (unitV 3 (⟨#[103]⟩ : ByteArray).data.toList = 1073741824) := Lib.hid rfl
   generalize (⟨#[103]⟩ : ByteArray) = B at hcut HU hB1 hB2
   by_cases hd : n % 1073741824 = 0
   ·have d1 : (n % 1073741824 == 0) = true := beq_iff_eq.2 hd
    have HF := Lib.hid (great3_0 n hn HK.out hd)
    obtain ⟨q, hq⟩ : ∃ q, n / 1073741824 = q := ⟨_, rfl⟩
    have hq0 : 0 ≤ q := by omega
    have hq1 : q ≤ n := by omega
    have e1 : Int.tdiv n 1073741824 = q := by rw [Int.tdiv_eq_ediv_of_nonneg h0]; exact hq
    have w1 : IntKind.i64.wrap q = q := IntWalk.i64_in _ (by omega)
    have w4 : IntKind.i64.wrap 1 = 1 := IntWalk.i64_in _ (by omega)
    have HQ := Lib.hid (refDigits_any q (by omega) (by omega))
    have hsz : (mkB (Lib.itoa q)).size ≤ 20 := by rw [mkB_size]; exact itoa_len q (by omega) (by omega)
    have HV : Hid (R = mkB (Lib.itoa q) ++ B) := Lib.hid (by rw [← HR.out, HF.out]; simp only [hq]; rw [hB2.out, mkB_append])
    generalize mkB (Lib.itoa q) = P at HQ HV hsz
    have hcat : ¬ (9223372036854775807 < P.size + B.size) := by omega
    clear hB1 hd hq hsz HK HF hk hk3
    go_wp2_with fail
    refine (refUnit_any 3 B _).mono ?_
    rintro e w' ⟨rfl, rfl⟩
    rw [HU.out]
    go_wp2
    go_region_held3 (fun _ => True) (trivial) (first | (go_at_call 138; (with_reducible refine (HQ.out _).mono ?_); rintro e w2 ⟨rfl, hb2⟩))
    all_goals
     go_wp2
     go_ret
     exact ⟨ret_val (by rw [HV.out]; rfl), (below_drewN w 1).trans (hb2.mono (Nat.le_refl _))⟩
   ·have d1 : (n % 1073741824 == 0) = false := beq_eq_false_iff_ne.2 hd
    have HN : Hid (no3 n 1) := Lib.hid (fun hn' => by
     obtain ⟨h0, h1, h2⟩ := HK.out hn'
     exact ⟨fun _ => hd, fun h => by omega, fun h => by omega⟩)
    clear hd HK hk hk3 hB1
    go_wp2_with fail
    refine (refUnit_any 3 B _).mono ?_
    rintro e w' ⟨rfl, rfl⟩
    rw [HU.out]
    go_wp2
    go_round
    case rel => exact ⟨1, rfl, by omega, HN⟩
    case measure => simp [intOf]
  ·have hB1 : (⟨#[109]⟩ : ByteArray).size = 1 := rfl
   have hB2 := Lib.hid (show (⟨#[109]⟩ : ByteArray) = mkB [109] from rfl)
   have hcut : ∀ W : World, (Instr.slice 9 (.string ⟨#[103, 109, 107]⟩) (some (.int .i64 1)) (some (.int .i64 2)) none).run Tryz.prog W = .ok (.string ⟨#[109]⟩) W := fun W => run_slice_string (P := Tryz.prog) W 9 (⟨#[103, 109, 107]⟩ : ByteArray) .i64 .i64 1 2 Tryz.underlying9 (by decide) (by decide) (by decide)
   have HU : Hid (unitV 3 (⟨#[109]⟩ : ByteArray).data.toList = 1048576) := Lib.hid rfl
   generalize (⟨#[109]⟩ : ByteArray) = B at hcut HU hB1 hB2
   by_cases hd : n % 1048576 = 0
   ·have d1 : (n % 1048576 == 0) = true := beq_iff_eq.2 hd
    have HF := Lib.hid (great3_1 n hn HK.out hd)
    obtain ⟨q, hq⟩ : ∃ q, n / 1048576 = q := ⟨_, rfl⟩
    have hq0 : 0 ≤ q := by omega
    have hq1 : q ≤ n := by omega
    have e1 : Int.tdiv n 1048576 = q := by rw [Int.tdiv_eq_ediv_of_nonneg h0]; exact hq
    have w1 : IntKind.i64.wrap q = q := IntWalk.i64_in _ (by omega)
    have w4 : IntKind.i64.wrap 2 = 2 := IntWalk.i64_in _ (by omega)
    have HQ := Lib.hid (refDigits_any q (by omega) (by omega))
    have hsz : (mkB (Lib.itoa q)).size ≤ 20 := by rw [mkB_size]; exact itoa_len q (by omega) (by omega)
    have HV : Hid (R = mkB (Lib.itoa q) ++ B) := Lib.hid (by rw [← HR.out, HF.out]; simp only [hq]; rw [hB2.out, mkB_append])
    generalize mkB (Lib.itoa q) = P at HQ HV hsz
    have hcat : ¬ (9223372036854775807 < P.size + B.size) := by omega
    clear hB1 hd hq hsz HK HF hk hk3
    go_wp2_with fail
    refine (refUnit_any 3 B _).mono ?_
    rintro e w' ⟨rfl, rfl⟩
    rw [HU.out]
    go_wp2
    go_region_held3 (fun _ => True) (trivial) (first | (go_at_call 138; (with_reducible refine (HQ.out _).mono ?_); rintro e w2 ⟨rfl, hb2⟩))
    all_goals
     go_wp2
     go_ret
     exact ⟨ret_val (by rw [HV.out]; rfl), (below_drewN w 1).trans (hb2.mono (Nat.le_refl _))⟩
   ·have d1 : (n % 1048576 == 0) = false := beq_eq_false_iff_ne.2 hd
    have HN : Hid (no3 n 2) := Lib.hid (fun hn' => by
     obtain ⟨h0, h1, h2⟩ := HK.out hn'
     exact ⟨fun h => h0 (by omega), fun _ => hd, fun h => by omega⟩)
    clear hd HK hk hk3 hB1
    go_wp2_with fail
    refine (refUnit_any 3 B _).mono ?_
    rintro e w' ⟨rfl, rfl⟩
    rw [HU.out]
    go_wp2
    go_round
    case rel => exact ⟨2, rfl, by omega, HN⟩
    case measure => simp [intOf]
  ·have hB1 : (⟨#[107]⟩ : ByteArray).size = 1 := rfl
   have hB2 := Lib.hid (show (⟨#[107]⟩ : ByteArray) = mkB [107] from rfl)
   have hcut : ∀ W : World, (Instr.slice 9 (.string ⟨#[103, 109, 107]⟩) (some (.int .i64 2)) (some (.int .i64 3)) none).run Tryz.prog W = .ok (.string ⟨#[107]⟩) W := fun W => run_slice_string (P := Tryz.prog) W 9 (⟨#[103, 109, 107]⟩ : ByteArray) .i64 .i64 2 3 Tryz.underlying9 (by decide) (by decide) (by decide)
   have HU : Hid (unitV 3 (⟨#[107]⟩ : ByteArray).data.toList = 1024) := Lib.hid rfl
   generalize (⟨#[107]⟩ : ByteArray) = B at hcut HU hB1 hB2
   by_cases hd : n % 1024 = 0
   ·have d1 : (n % 1024 == 0) = true := beq_iff_eq.2 hd
    have HF := Lib.hid (great3_2 n hn HK.out hd)
    obtain ⟨q, hq⟩ : ∃ q, n / 1024 = q := ⟨_, rfl⟩
    have hq0 : 0 ≤ q := by omega
    have hq1 : q ≤ n := by omega
    have e1 : Int.tdiv n 1024 = q := by rw [Int.tdiv_eq_ediv_of_nonneg h0]; exact hq
    have w1 : IntKind.i64.wrap q = q := IntWalk.i64_in _ (by omega)
    have w4 : IntKind.i64.wrap 3 = 3 := IntWalk.i64_in _ (by omega)
    have HQ := Lib.hid (refDigits_any q (by omega) (by omega))
    have hsz : (mkB (Lib.itoa q)).size ≤ 20 := by rw [mkB_size]; exact itoa_len q (by omega) (by omega)
    have HV : Hid (R = mkB (Lib.itoa q) ++ B) := Lib.hid (by rw [← HR.out, HF.out]; simp only [hq]; rw [hB2.out, mkB_append])
    generalize mkB (Lib.itoa q) = P at HQ HV hsz
    have hcat : ¬ (9223372036854775807 < P.size + B.size) := by omega
    clear hB1 hd hq hsz HK HF hk hk3
    go_wp2_with fail
    refine (refUnit_any 3 B _).mono ?_
    rintro e w' ⟨rfl, rfl⟩
    rw [HU.out]
    go_wp2
    go_region_held3 (fun _ => True) (trivial) (first | (go_at_call 138; (with_reducible refine (HQ.out _).mono ?_); rintro e w2 ⟨rfl, hb2⟩))
    all_goals
     go_wp2
     go_ret
     exact ⟨ret_val (by rw [HV.out]; rfl), (below_drewN w 1).trans (hb2.mono (Nat.le_refl _))⟩
   ·have d1 : (n % 1024 == 0) = false := beq_eq_false_iff_ne.2 hd
    have HN : Hid (no3 n 3) := Lib.hid (fun hn' => by
     obtain ⟨h0, h1, h2⟩ := HK.out hn'
     exact ⟨fun h => h0 (by omega), fun h => h1 (by omega), fun _ => hd⟩)
    clear hd HK hk hk3 hB1
    go_wp2_with fail
    refine (refUnit_any 3 B _).mono ?_
    rintro e w' ⟨rfl, rfl⟩
    rw [HU.out]
    go_wp2
    go_round
    case rel => exact ⟨3, rfl, by omega, HN⟩
    case measure => simp [intOf]
def no4 (n : Int) (k : Nat) : Prop := 0 < n → (0 < k → ¬ n % 86400 = 0) ∧ (1 < k → ¬ n % 3600 = 0) ∧ (2 < k → ¬ n % 60 = 0)
theorem great4_0 (n : Int) (hn : 0 < n) (h : no4 n 0) (hd : n % 86400 = 0) : unitFor 4 n = (86400, [100]) := by
 obtain ⟨h0, h1, h2⟩ := h hn
 unfold unitFor
 rw [if_neg (by decide), if_pos ⟨hn, hd⟩]
theorem great4_1 (n : Int) (hn : 0 < n) (h : no4 n 1) (hd : n % 3600 = 0) : unitFor 4 n = (3600, [104]) := by
 obtain ⟨h0, h1, h2⟩ := h hn
 unfold unitFor
 rw [if_neg (by decide), if_neg (fun h => h0 (by omega) h.2), if_pos ⟨hn, hd⟩]
theorem great4_2 (n : Int) (hn : 0 < n) (h : no4 n 2) (hd : n % 60 = 0) : unitFor 4 n = (60, [109]) := by
 obtain ⟨h0, h1, h2⟩ := h hn
 unfold unitFor
 rw [if_neg (by decide), if_neg (fun h => h0 (by omega) h.2), if_neg (fun h => h1 (by omega) h.2), if_pos ⟨hn, hd⟩]
theorem great4_end (n : Int) (h : no4 n 3 ∨ ¬ 0 < n) : unitFor 4 n = (1, [115]) := by
 have h' : ∀ u : Int, (u = 86400 ∨ u = 3600 ∨ u = 60) → ¬ (0 < n ∧ n % u = 0) := by
  rintro u hu ⟨hn, hd⟩
  rcases h with h | h
  ·obtain ⟨h0, h1, h2⟩ := h hn
   rcases hu with rfl | rfl | rfl
   ·exact h0 (by omega) hd
   ·exact h1 (by omega) hd
   ·exact h2 (by omega) hd
  ·exact h hn
 unfold unitFor
 rw [if_neg (by decide), if_neg (h' _ (Or.inl rfl)), if_neg (h' _ (Or.inr (Or.inl rfl))), if_neg (h' _ (Or.inr (Or.inr rfl)))]

set_option maxHeartbeats 3200000 in
set_option maxRecDepth 100000 in
theorem refGreat4_any (n : Int) (h0 : 0 ≤ n) (h1 : n ≤ 1099511627776) (w : World) :
  Calls Tryz.prog 139 #[.int .i64 4, .int .i64 n, .string ⟨#[100, 104, 109]⟩] w fun e w' => e = .returned (.string (mkB (Lib.itoa (n / (unitFor 4 n).1) ++ (unitFor 4 n).2))) ∧ Below w.heap.size w w' := by
 obtain ⟨R, hR⟩ : ∃ R, mkB (Lib.itoa (n / (unitFor 4 n).1) ++ (unitFor 4 n).2) = R := ⟨_, rfl⟩
 have HR := Lib.hid hR
 rw [hR]
 clear hR
 have HS : Hid (no4 n 0) := Lib.hid (fun _ => ⟨fun h => by omega, fun h => by omega, fun h => by omega⟩)
 go_enter Tryz.func139, Tryz.ntmps139
 go_wp2
 go_loop [7] (fun i => ∃ k : Nat, i = .int .i64 k ∧ k ≤ 3 ∧ Hid (no4 n k)) (fun i => 3 - (intOf i).toNat)
 case atStart => exact ⟨0, rfl, by omega, HS⟩
 case round =>
  clear HS
  obtain ⟨k, rfl, hk, HK⟩ := hrel
  by_cases hfin : k = 3 ∨ ¬ 0 < n
  ·have HU := Lib.hid (great4_end n (hfin.imp (fun e => by subst e; exact HK.out) id))
   have HQ := Lib.hid (refDigits_any n (by omega) (by omega))
   have hsz : (mkB (Lib.itoa n)).size ≤ 20 := by rw [mkB_size]; exact itoa_len n (by omega) (by omega)
   have HV : Hid (R = mkB (Lib.itoa n) ++ (⟨#[115]⟩ : ByteArray)) := Lib.hid (by rw [← HR.out, HU.out]; simp only [Int.ediv_one]; rw [show (⟨#[115]⟩ : ByteArray) = mkB [115] from rfl, mkB_append])
   generalize mkB (Lib.itoa n) = P at HQ HV hsz
   have hcat : ¬ (9223372036854775807 < P.size + (⟨#[115]⟩ : ByteArray).size) := by have h2 : (⟨#[115]⟩ : ByteArray).size = 1 := rfl; omega
   rcases hfin with rfl | hn
   ·clear HK hsz
    go_wp2_with fail
    refine (HQ.out _).mono ?_
    rintro e w2 ⟨rfl, hb2⟩
    go_wp2
    go_ret
    exact ⟨ret_val (by rw [HV.out]; rfl), hb2⟩
   ·have hn0 : n = 0 := by omega
    subst hn0
    clear HK hn hsz
    by_cases hk3 : k < 3
    ·have q1 : (k : Int) < 3 := by omega
     go_wp2_with fail
     refine (HQ.out _).mono ?_
     rintro e w2 ⟨rfl, hb2⟩
     go_wp2
     go_ret
     exact ⟨ret_val (by rw [HV.out]; rfl), hb2⟩
    ·have q1 : ¬ (k : Int) < 3 := by omega
     go_wp2_with fail
     refine (HQ.out _).mono ?_
     rintro e w2 ⟨rfl, hb2⟩
     go_wp2
     go_ret
     exact ⟨ret_val (by rw [HV.out]; rfl), hb2⟩
  have hn : 0 < n := by omega
  have hk3 : k < 3 := by omega
  clear hfin
  rcases k with _ | _ | _ | k
  rotate_right
  ·omega
  ·have hB1 : (⟨#[100]⟩ : ByteArray).size = 1 := rfl
   have hB2 := Lib.hid (show (⟨#[100]⟩ : ByteArray) = mkB [100] from rfl)
   have hcut : ∀ W : World, (Instr.slice 9 (.string ⟨#[100, 104, 109]⟩) (some (.int .i64 0)) (some (.int .i64 1)) none).run Tryz.prog W = .ok (.string ⟨#[100]⟩) W := fun W => run_slice_string (P := Tryz.prog) W 9 (⟨#[100, 104, 109]⟩ : ByteArray) .i64 .i64 0 1 Tryz.underlying9 (by decide) (by decide) (by decide)
   have HU : Hid (unitV 4 (⟨#[100]⟩ : ByteArray).data.toList = 86400) := Lib.hid rfl
   generalize (⟨#[100]⟩ : ByteArray) = B at hcut HU hB1 hB2
   by_cases hd : n % 86400 = 0
   ·have d1 : (n % 86400 == 0) = true := beq_iff_eq.2 hd
    have HF := Lib.hid (great4_0 n hn HK.out hd)
    obtain ⟨q, hq⟩ : ∃ q, n / 86400 = q := ⟨_, rfl⟩
    have hq0 : 0 ≤ q := by omega
    have hq1 : q ≤ n := by omega
    have e1 : Int.tdiv n 86400 = q := by rw [Int.tdiv_eq_ediv_of_nonneg h0]; exact hq
    have w1 : IntKind.i64.wrap q = q := IntWalk.i64_in _ (by omega)
    have w4 : IntKind.i64.wrap 1 = 1 := IntWalk.i64_in _ (by omega)
    have HQ := Lib.hid (refDigits_any q (by omega) (by omega))
    have hsz : (mkB (Lib.itoa q)).size ≤ 20 := by rw [mkB_size]; exact itoa_len q (by omega) (by omega)
    have HV : Hid (R = mkB (Lib.itoa q) ++ B) := Lib.hid (by rw [← HR.out, HF.out]; simp only [hq]; rw [hB2.out, mkB_append])
    generalize mkB (Lib.itoa q) = P at HQ HV hsz
    have hcat : ¬ (9223372036854775807 < P.size + B.size) := by omega
    clear hB1 hd hq hsz HK HF hk hk3
    go_wp2_with fail
    refine (refUnit_any 4 B _).mono ?_
    rintro e w' ⟨rfl, rfl⟩
    rw [HU.out]
    go_wp2
    go_region_held3 (fun _ => True) (trivial) (first | (go_at_call 138; (with_reducible refine (HQ.out _).mono ?_); rintro e w2 ⟨rfl, hb2⟩))
    all_goals
     go_wp2
     go_ret
     exact ⟨ret_val (by rw [HV.out]; rfl), (below_drewN w 1).trans (hb2.mono (Nat.le_refl _))⟩
   ·have d1 : (n % 86400 == 0) = false := beq_eq_false_iff_ne.2 hd
    have HN : Hid (no4 n 1) := Lib.hid (fun hn' => by
     obtain ⟨h0, h1, h2⟩ := HK.out hn'
     exact ⟨fun _ => hd, fun h => by omega, fun h => by omega⟩)
    clear hd HK hk hk3 hB1
    go_wp2_with fail
    refine (refUnit_any 4 B _).mono ?_
    rintro e w' ⟨rfl, rfl⟩
    rw [HU.out]
    go_wp2
    go_round
    case rel => exact ⟨1, rfl, by omega, HN⟩
    case measure => simp [intOf]
  ·have hB1 : (⟨#[104]⟩ : ByteArray).size = 1 := rfl
   have hB2 := Lib.hid (show (⟨#[104]⟩ : ByteArray) = mkB [104] from rfl)
   have hcut : ∀ W : World, (Instr.slice 9 (.string ⟨#[100, 104, 109]⟩) (some (.int .i64 1)) (some (.int .i64 2)) none).run Tryz.prog W = .ok (.string ⟨#[104]⟩) W := fun W => run_slice_string (P := Tryz.prog) W 9 (⟨#[100, 104, 109]⟩ : ByteArray) .i64 .i64 1 2 Tryz.underlying9 (by decide) (by decide) (by decide)
   have HU : Hid (unitV 4 (⟨#[104]⟩ : ByteArray).data.toList = 3600) := Lib.hid rfl
   generalize (⟨#[104]⟩ : ByteArray) = B at hcut HU hB1 hB2
   by_cases hd : n % 3600 = 0
   ·have d1 : (n % 3600 == 0) = true := beq_iff_eq.2 hd
    have HF := Lib.hid (great4_1 n hn HK.out hd)
    obtain ⟨q, hq⟩ : ∃ q, n / 3600 = q := ⟨_, rfl⟩
    have hq0 : 0 ≤ q := by omega
    have hq1 : q ≤ n := by omega
    have e1 : Int.tdiv n 3600 = q := by rw [Int.tdiv_eq_ediv_of_nonneg h0]; exact hq
    have w1 : IntKind.i64.wrap q = q := IntWalk.i64_in _ (by omega)
    have w4 : IntKind.i64.wrap 2 = 2 := IntWalk.i64_in _ (by omega)
    have HQ := Lib.hid (refDigits_any q (by omega) (by omega))
    have hsz : (mkB (Lib.itoa q)).size ≤ 20 := by rw [mkB_size]; exact itoa_len q (by omega) (by omega)
    have HV : Hid (R = mkB (Lib.itoa q) ++ B) := Lib.hid (by rw [← HR.out, HF.out]; simp only [hq]; rw [hB2.out, mkB_append])
    generalize mkB (Lib.itoa q) = P at HQ HV hsz
    have hcat : ¬ (9223372036854775807 < P.size + B.size) := by omega
    clear hB1 hd hq hsz HK HF hk hk3
    go_wp2_with fail
    refine (refUnit_any 4 B _).mono ?_
    rintro e w' ⟨rfl, rfl⟩
    rw [HU.out]
    go_wp2
    go_region_held3 (fun _ => True) (trivial) (first | (go_at_call 138; (with_reducible refine (HQ.out _).mono ?_); rintro e w2 ⟨rfl, hb2⟩))
    all_goals
     go_wp2
     go_ret
     exact ⟨ret_val (by rw [HV.out]; rfl), (below_drewN w 1).trans (hb2.mono (Nat.le_refl _))⟩
   ·have d1 : (n % 3600 == 0) = false := beq_eq_false_iff_ne.2 hd
    have HN : Hid (no4 n 2) := Lib.hid (fun hn' => by
     obtain ⟨h0, h1, h2⟩ := HK.out hn'
     exact ⟨fun h => h0 (by omega), fun _ => hd, fun h => by omega⟩)
    clear hd HK hk hk3 hB1
    go_wp2_with fail
    refine (refUnit_any 4 B _).mono ?_
    rintro e w' ⟨rfl, rfl⟩
    rw [HU.out]
    go_wp2
    go_round
    case rel => exact ⟨2, rfl, by omega, HN⟩
    case measure => simp [intOf]
  ·have hB1 : (⟨#[109]⟩ : ByteArray).size = 1 := rfl
   have hB2 := Lib.hid (show (⟨#[109]⟩ : ByteArray) = mkB [109] from rfl)
   have hcut : ∀ W : World, (Instr.slice 9 (.string ⟨#[100, 104, 109]⟩) (some (.int .i64 2)) (some (.int .i64 3)) none).run Tryz.prog W = .ok (.string ⟨#[109]⟩) W := fun W => run_slice_string (P := Tryz.prog) W 9 (⟨#[100, 104, 109]⟩ : ByteArray) .i64 .i64 2 3 Tryz.underlying9 (by decide) (by decide) (by decide)
   have HU : Hid (unitV 4 (⟨#[109]⟩ : ByteArray).data.toList = 60) := Lib.hid rfl
   generalize (⟨#[109]⟩ : ByteArray) = B at hcut HU hB1 hB2
   by_cases hd : n % 60 = 0
   ·have d1 : (n % 60 == 0) = true := beq_iff_eq.2 hd
    have HF := Lib.hid (great4_2 n hn HK.out hd)
    obtain ⟨q, hq⟩ : ∃ q, n / 60 = q := ⟨_, rfl⟩
    have hq0 : 0 ≤ q := by omega
    have hq1 : q ≤ n := by omega
    have e1 : Int.tdiv n 60 = q := by rw [Int.tdiv_eq_ediv_of_nonneg h0]; exact hq
    have w1 : IntKind.i64.wrap q = q := IntWalk.i64_in _ (by omega)
    have w4 : IntKind.i64.wrap 3 = 3 := IntWalk.i64_in _ (by omega)
    have HQ := Lib.hid (refDigits_any q (by omega) (by omega))
    have hsz : (mkB (Lib.itoa q)).size ≤ 20 := by rw [mkB_size]; exact itoa_len q (by omega) (by omega)
    have HV : Hid (R = mkB (Lib.itoa q) ++ B) := Lib.hid (by rw [← HR.out, HF.out]; simp only [hq]; rw [hB2.out, mkB_append])
    generalize mkB (Lib.itoa q) = P at HQ HV hsz
    have hcat : ¬ (9223372036854775807 < P.size + B.size) := by omega
    clear hB1 hd hq hsz HK HF hk hk3
    go_wp2_with fail
    refine (refUnit_any 4 B _).mono ?_
    rintro e w' ⟨rfl, rfl⟩
    rw [HU.out]
    go_wp2
    go_region_held3 (fun _ => True) (trivial) (first | (go_at_call 138; (with_reducible refine (HQ.out _).mono ?_); rintro e w2 ⟨rfl, hb2⟩))
    all_goals
     go_wp2
     go_ret
     exact ⟨ret_val (by rw [HV.out]; rfl), (below_drewN w 1).trans (hb2.mono (Nat.le_refl _))⟩
   ·have d1 : (n % 60 == 0) = false := beq_eq_false_iff_ne.2 hd
    have HN : Hid (no4 n 3) := Lib.hid (fun hn' => by
     obtain ⟨h0, h1, h2⟩ := HK.out hn'
     exact ⟨fun h => h0 (by omega), fun h => h1 (by omega), fun _ => hd⟩)
    clear hd HK hk hk3 hB1
    go_wp2_with fail
    refine (refUnit_any 4 B _).mono ?_
    rintro e w' ⟨rfl, rfl⟩
    rw [HU.out]
    go_wp2
    go_round
    case rel => exact ⟨3, rfl, by omega, HN⟩
    case measure => simp [intOf]
end Go.Proofs.YtopghlnoklajkaaGreatDoor

namespace Go.Proofs.YtopghlnoklajkaaGreatDoor
open Go.ChangeShapes Go.WideShapes Go.ChangeAt Go.RowKit

theorem joinTail_snoc (r : List (List UInt8)) (x : List UInt8) : Lib.joinTail [44] (r ++ [x]) = Lib.joinTail [44] r ++ ([44] ++ x) := by
 unfold Lib.joinTail
 rw [List.map_append, List.flatten_append]; simp
theorem join_first (xs : List ByteArray) (h : 0 < xs.length) : mkB (joinW (xs.take 1)) = xs[0] := by
 cases xs with
 | nil => simp at h
 | cons a r =>
  show mkB (joinW [a]) = a
  unfold joinW
  rw [show wl [a] = a.data.toList :: wl [] from rfl, Lib.join_cons, show Lib.joinTail [44] (wl []) = [] from rfl, List.append_nil, mkB_self]
theorem join_next (xs : List ByteArray) (k : Nat) (h : k < xs.length) (hk : 0 < k) : mkB (joinW (xs.take (k + 1))) = (mkB (joinW (xs.take k)) ++ mkB [44]) ++ xs[k] := by
 cases xs with
 | nil => simp at h
 | cons a r =>
  obtain ⟨k, rfl⟩ : ∃ q, k = q + 1 := ⟨k - 1, by omega⟩
  have hk' : k < r.length := by simpa using h
  have e1 : wl ((a :: r).take (k + 1 + 1)) = a.data.toList :: (wl (r.take k) ++ [r[k].data.toList]) := by
   rw [List.take_succ_cons, List.take_succ_eq_append_getElem hk']
   unfold wl
   rw [List.map_cons, List.map_append]; rfl
  have e2 : wl ((a :: r).take (k + 1)) = a.data.toList :: wl (r.take k) := by rw [List.take_succ_cons]; rfl
  unfold joinW
  rw [e1, e2, Lib.join_cons, Lib.join_cons, joinTail_snoc, mkB_append]
  have : (a :: r)[k + 1] = mkB r[k].data.toList := by rw [mkB_self]; rfl
  rw [this, mkB_append]
  congr 1
  simp
theorem print_no {v : Val} (h : rightV v = false) : printR v = ([], 1) := by unfold printR; rw [h]; rfl
theorem print_yes {v : Val} (h : rightV v = true) : printR v = (printV v, 0) := by unfold printR; rw [h]; rfl

def JoinAt (xs : List ByteArray) (k : Nat) (J : ByteArray) : Prop := J = mkB (joinW (xs.take k)) ∧ J.size ≤ 33 * k

set_option maxHeartbeats 1600000 in
set_option maxRecDepth 100000 in
theorem refPrint_any (w : World) (v : Val) (x : Option Addr) (c : Nat) (h : ArgOk w v x c) (hl : v.words.length ≤ 2147483647) :
  Calls Tryz.prog 111 #[argV v x c] w fun e w' => e = .returned (.tuple #[.string (mkB (printR v).1), .int .i64 (printR v).2]) ∧ Below w.heap.size w w' := by
 have hb0 : Hid (∀ p, Box4 (w.alloc (.cells #[.int .i64 v.kind, .int .i64 v.int, .string v.text, .slice x v.words.length c] p)) w.heap.size (.int .i64 v.kind) (.int .i64 v.int) (.string v.text) (.slice x v.words.length c) ∧ Below w.heap.size w (w.alloc (.cells #[.int .i64 v.kind, .int .i64 v.int, .string v.text, .slice x v.words.length c] p))) := Lib.hid fun p => ⟨box4_new w _ _ _ _ p, (Below.refl _ _).alloc (Nat.le_refl _) _⟩
 have HRC : Hid (∀ p, Calls Tryz.prog 107 #[.agg #[.int .i64 v.kind, .int .i64 v.int, .string v.text, .slice x v.words.length c]] (w.alloc (.cells #[.int .i64 v.kind, .int .i64 v.int, .string v.text, .slice x v.words.length c] p)) fun e w' => e = .returned (.bool (rightV v)) ∧ Below (w.alloc (.cells #[.int .i64 v.kind, .int .i64 v.int, .string v.text, .slice x v.words.length c] p)).heap.size (w.alloc (.cells #[.int .i64 v.kind, .int .i64 v.int, .string v.text, .slice x v.words.length c] p)) w') := Lib.hid fun p => refRight_any _ v x c (h.below ((hb0.out p).2)) hl
 have HTX : Hid (∀ w1, Below w.heap.size w w1 → Txts w1 x v.words) := Lib.hid fun w1 hb => h.list.below hb
 have HSZ : Hid (∀ k (h : k < v.words.length), v.words[k].size ≤ maxLen) := Lib.hid h.sizes
 clear h hl
 cases hT : rightV v with
 | false =>
  have HV := Lib.hid (print_no hT)
  rw [hT] at HRC
  clear hT
  unfold argV
  obtain ⟨k, n, t, xs⟩ := v
  simp only at hb0 HRC HV ⊢
  rw [HV.out]
  go_enter Tryz.func111, Tryz.ntmps111
  go_wp2_with fail
  refine (HRC.out _).mono ?_
  rintro e w1 ⟨rfl, hb⟩
  have HB := Lib.hid ((hb0.out 48).2.trans (hb.mono (hb0.out 48).2.size))
  clear hb
  go_wp2
  go_ret2
  exact ⟨rfl, HB.out⟩
 | true =>
  have hcases := right_cases hT
  rw [print_yes hT]
  rw [hT] at HRC
  clear hT
  unfold argV
  obtain ⟨k, n, t, xs⟩ := v
  simp only at hb0 HRC HTX HSZ hcases ⊢
  obtain ⟨N, hN⟩ : ∃ N, xs.length = N := ⟨_, rfl⟩
  have HN := Lib.hid hN
  rw [hN] at hb0 HRC hcases ⊢
  clear hN
  rcases hcases with ⟨rfl, hi, hx1, hx2⟩ | ⟨rfl, hi, hx1, hx2⟩ | ⟨hk, hi, hx1, hx2⟩ | ⟨rfl, hi, hx1, hx2⟩ | ⟨rfl, hi, hx1, hN16, ha, hx2⟩
  all_goals clear hx1 hx2
  ·by_cases h1 : n = 1
   ·have HV : Hid (printV ⟨1, n, t, xs⟩ = [116, 114, 117, 101]) := Lib.hid (by unfold printV; rw [if_pos rfl, if_pos h1])
    have d1 : (n == 1) = true := beq_iff_eq.2 h1
    clear h1 hi
    go_enter Tryz.func111, Tryz.ntmps111
    go_wp2_with fail
    refine (HRC.out _).mono ?_
    rintro e w1 ⟨rfl, hb⟩
    obtain ⟨c0, c1, c2, c3, _, _, _, _⟩ := (hb0.out 48).1.below hb
    have HB := Lib.hid ((hb0.out 48).2.trans (hb.mono (hb0.out 48).2.size))
    clear hb
    go_wp2
    go_ret2
    exact ⟨ret_val (by rw [HV.out]; rfl), HB.out⟩
   ·have HV : Hid (printV ⟨1, n, t, xs⟩ = [102, 97, 108, 115, 101]) := Lib.hid (by unfold printV; rw [if_pos rfl, if_neg h1])
    have d1 : (n == 1) = false := beq_eq_false_iff_ne.2 h1
    clear h1 hi
    go_enter Tryz.func111, Tryz.ntmps111
    go_wp2_with fail
    refine (HRC.out _).mono ?_
    rintro e w1 ⟨rfl, hb⟩
    obtain ⟨c0, c1, c2, c3, _, _, _, _⟩ := (hb0.out 48).1.below hb
    have HB := Lib.hid ((hb0.out 48).2.trans (hb.mono (hb0.out 48).2.size))
    clear hb
    go_wp2
    go_ret2
    exact ⟨ret_val (by rw [HV.out]; rfl), HB.out⟩
  ·have HV : Hid (mkB (printV ⟨2, n, t, xs⟩) = mkB (Lib.itoa n)) := Lib.hid rfl
   have HD := Lib.hid (refDigits_any n hi.1 hi.2)
   generalize mkB (Lib.itoa n) = P at HV HD
   clear hi
   go_enter Tryz.func111, Tryz.ntmps111
   go_wp2_with fail
   refine (HRC.out _).mono ?_
   rintro e w1 ⟨rfl, hb⟩
   obtain ⟨c0, c1, c2, c3, _, _, _, _⟩ := (hb0.out 48).1.below hb
   have HB := Lib.hid ((hb0.out 48).2.trans (hb.mono (hb0.out 48).2.size))
   clear hb
   go_wp2_with fail
   refine (HD.out _).mono ?_
   rintro e w2 ⟨rfl, hb2⟩
   have HB2 := Lib.hid (HB.out.trans (hb2.mono HB.out.size))
   clear hb2
   go_wp2
   go_ret2
   exact ⟨ret_val (by rw [HV.out]; rfl), HB2.out⟩
  ·rcases hk with rfl | rfl
   ·have HV : Hid (mkB (printV ⟨3, n, t, xs⟩) = mkB (Lib.itoa (n / (unitFor 3 n).1) ++ (unitFor 3 n).2)) := Lib.hid rfl
    have HD := Lib.hid (refGreat3_any n hi.1 (by have := hi.2; unfold mostV at this; simpa using this))
    generalize mkB (Lib.itoa (n / (unitFor 3 n).1) ++ (unitFor 3 n).2) = P at HV HD
    clear hi
    go_enter Tryz.func111, Tryz.ntmps111
    go_wp2_with fail
    refine (HRC.out _).mono ?_
    rintro e w1 ⟨rfl, hb⟩
    obtain ⟨c0, c1, c2, c3, _, _, _, _⟩ := (hb0.out 48).1.below hb
    have HB := Lib.hid ((hb0.out 48).2.trans (hb.mono (hb0.out 48).2.size))
    clear hb
    go_wp2_with fail
    refine (HD.out _).mono ?_
    rintro e w2 ⟨rfl, hb2⟩
    have HB2 := Lib.hid (HB.out.trans (hb2.mono HB.out.size))
    clear hb2
    go_wp2
    go_ret2
    exact ⟨ret_val (by rw [HV.out]; rfl), HB2.out⟩
   ·have HV : Hid (mkB (printV ⟨4, n, t, xs⟩) = mkB (Lib.itoa (n / (unitFor 4 n).1) ++ (unitFor 4 n).2)) := Lib.hid rfl
    have HD := Lib.hid (refGreat4_any n hi.1 (by have := hi.2; unfold mostV at this; simpa using this))
    generalize mkB (Lib.itoa (n / (unitFor 4 n).1) ++ (unitFor 4 n).2) = P at HV HD
    clear hi
    go_enter Tryz.func111, Tryz.ntmps111
    go_wp2_with fail
    refine (HRC.out _).mono ?_
    rintro e w1 ⟨rfl, hb⟩
    obtain ⟨c0, c1, c2, c3, _, _, _, _⟩ := (hb0.out 48).1.below hb
    have HB := Lib.hid ((hb0.out 48).2.trans (hb.mono (hb0.out 48).2.size))
    clear hb
    go_wp2_with fail
    refine (HD.out _).mono ?_
    rintro e w2 ⟨rfl, hb2⟩
    have HB2 := Lib.hid (HB.out.trans (hb2.mono HB.out.size))
    clear hb2
    go_wp2
    go_ret2
    exact ⟨ret_val (by rw [HV.out]; rfl), HB2.out⟩
  ·have HV : Hid (mkB (printV ⟨5, n, t, xs⟩) = t) := Lib.hid (by
    rw [show printV ⟨5, n, t, xs⟩ = t.data.toList from rfl, mkB_self])
   clear hi
   go_enter Tryz.func111, Tryz.ntmps111
   go_wp2_with fail
   refine (HRC.out _).mono ?_
   rintro e w1 ⟨rfl, hb⟩
   obtain ⟨c0, c1, c2, c3, _, _, _, _⟩ := (hb0.out 48).1.below hb
   have HB := Lib.hid ((hb0.out 48).2.trans (hb.mono (hb0.out 48).2.size))
   clear hb
   go_wp2
   go_ret2
   exact ⟨ret_val (by rw [HV.out]; rfl), HB.out⟩
  ·have HV : Hid (mkB (printV ⟨6, n, t, xs⟩) = mkB (joinW (xs.take N))) := Lib.hid (by
    rw [show printV ⟨6, n, t, xs⟩ = joinW xs from rfl, ← HN.out, List.take_length])
   have HWD : Hid (∀ k (h : k < xs.length), xs[k].size ≤ 32) := Lib.hid fun k h => by
    have hm : xs[k].data.toList ∈ wl xs := List.mem_map.2 ⟨_, List.getElem_mem h, rfl⟩
    have := word_small (List.all_eq_true.1 ha _ hm)
    have h2 : xs[k].data.toList.length = xs[k].size := by simp
    omega
   have HJ0 : Hid (JoinAt xs 0 ⟨#[]⟩) := Lib.hid ⟨rfl, by decide⟩
   have HF := Lib.hid (join_first xs)
   have HNX := Lib.hid (join_next xs)
   have hB1 : (⟨#[44]⟩ : ByteArray).size = 1 := rfl
   have HB2 := Lib.hid (show (⟨#[44]⟩ : ByteArray) = mkB [44] from rfl)
   clear hi ha
   go_enter Tryz.func111, Tryz.ntmps111
   go_wp2_with fail
   refine (HRC.out _).mono ?_
   rintro e w1 ⟨rfl, hb⟩
   obtain ⟨c0, c1, c2, c3, _, _, _, _⟩ := (hb0.out 48).1.below hb
   have HB := Lib.hid ((hb0.out 48).2.trans (hb.mono (hb0.out 48).2.size))
   clear hb
   go_wp2
   go_loop [5, 6] (fun s i => ∃ (k : Nat) (J : ByteArray), i = .int .i64 k ∧ k ≤ N ∧ s = .string J ∧ Hid (JoinAt xs k J)) (fun _ i => N - (intOf i).toNat)
   case atStart => exact ⟨0, _, rfl, by omega, rfl, HJ0⟩
   case round =>
    clear HJ0
    obtain ⟨k, J, rfl, hk, rfl, HJ⟩ := hrel
    by_cases hlt : k < N
    ·have hkx : k < xs.length := by rw [HN.out]; exact hlt
     obtain ⟨b, off, hxe, hbl, hc⟩ := HTX.out w1 HB.out k hkx
     have hz := HWD.out k hkx
     have hnx := HNX.out k hkx
     have hfx : k = 0 → mkB (joinW (xs.take (k + 1))) = xs[k] := fun e => by subst e; exact HF.out hkx
     have hjs := HJ.out.2
     generalize xs[k] = p at hc hz hnx hfx
     subst hxe
     have q1 : (0 : Int) ≤ k := by omega
     have q2 : (k : Int) < N := by omega
     by_cases hk0 : k = 0
     ·have e0 : (⟨#[]⟩ : ByteArray) ++ p = p := by
       have h1 : (⟨#[]⟩ : ByteArray) ++ mkB p.data.toList = mkB p.data.toList := by rw [show (⟨#[]⟩ : ByteArray) = mkB [] from rfl, mkB_append, List.nil_append]
       rw [mkB_self] at h1; exact h1
      have HJN : Hid (JoinAt xs (k + 1) p) := Lib.hid ⟨(hfx hk0).symm, by omega⟩
      have hJe : J = ⟨#[]⟩ := by rw [HJ.out.1, hk0]; rfl
      subst hJe hk0
      have hcat : ¬ (9223372036854775807 < (⟨#[]⟩ : ByteArray).size + p.size) := by have h2 : (⟨#[]⟩ : ByteArray).size = 0 := rfl; omega
      have hcat0 : ¬ (9223372036854775807 < p.size) := by omega
      have hc0 : w1.cell? ⟨b, off, none⟩ = some (.string p) := hc
      clear hnx hfx hjs HJ hkx
      go_wp2
      go_round
      case rel => exact ⟨1, _, by go_num, by omega, rfl, HJN⟩
      case measure => simp [intOf]; omega
     ·have hkp : (0 : Int) < k := by omega
      have HJN : Hid (JoinAt xs (k + 1) ((J ++ (⟨#[44]⟩ : ByteArray)) ++ p)) := Lib.hid ⟨by rw [hnx (by omega), HJ.out.1, HB2.out], by simp only [ByteArray.size_append, hB1]; omega⟩
      have hz1 : (J ++ (⟨#[44]⟩ : ByteArray)).size = J.size + 1 := by rw [ByteArray.size_append]; rfl
      have hcat1 : ¬ (9223372036854775807 < J.size + (⟨#[44]⟩ : ByteArray).size) := by omega
      have hcat2 : ¬ (9223372036854775807 < (J ++ (⟨#[44]⟩ : ByteArray)).size + p.size) := by omega
      have hcat3 : ¬ (9223372036854775807 < J.size + 1) := by omega
      have hcat4 : ¬ (9223372036854775807 < J.size + 1 + p.size) := by omega
      clear hnx hfx hjs HJ hkx hk0 hz1
      go_wp2
      go_round
      case rel => exact ⟨k + 1, _, by go_num, by omega, rfl, HJN⟩
      case measure => simp [intOf]; omega
    ·have hkn : k = N := by omega
     have HE : Hid (J = mkB (printV ⟨6, n, t, xs⟩)) := Lib.hid (by rw [HV.out, HJ.out.1, hkn])
     have q2 : ¬ (k : Int) < N := by omega
     clear hkn
     go_wp2
     go_ret2
     exact ⟨ret_val (by rw [HE.out]; rfl), HB.out⟩
end Go.Proofs.YtopghlnoklajkaaGreatDoor

namespace Go.Proofs.YtopghlnoklajkaaGreatDoor
open Go.ChangeShapes Go.WideShapes Go.ChangeAt Go.RowKit

def WObj (w : World) (X : Nat) (lv pv ev mv tv dv : Value) : Prop := ∃ fr, w.heap[X]? = some (Obj.cells #[lv, pv, ev, mv, tv, dv] 99 fr)
theorem WObj.below {w w' : World} {X : Nat} {lv pv ev mv tv dv : Value} (h : WObj w X lv pv ev mv tv dv) (hb : Below w.heap.size w w') : WObj w' X lv pv ev mv tv dv := by
 obtain ⟨fr, h⟩ := h
 exact ⟨fr, (hb.block X (heap_ltF h)).trans h⟩
theorem WObj.cells {w : World} {X : Nat} {lv pv ev mv tv dv : Value} (h : WObj w X lv pv ev mv tv dv) : w.cell? ⟨X, 0, none⟩ = some lv ∧ w.cell? ⟨X, 1, none⟩ = some pv ∧ w.cell? ⟨X, 2, none⟩ = some ev ∧ w.cell? ⟨X, 3, none⟩ = some mv ∧ w.cell? ⟨X, 4, none⟩ = some tv ∧ w.cell? ⟨X, 5, none⟩ = some dv := by
 obtain ⟨fr, h⟩ := h
 refine ⟨?_, ?_, ?_, ?_, ?_, ?_⟩
 all_goals rw [cell_of_row w X _ _ _ _ h]; rfl
def piecesS (x : SetV) : Option (List PcB) := if x.val.kind = 5 then piecesB x.val.text.data.toList else some [((printR x.val).1, false)]
theorem newRow {w w' : World} {B : Nat} {e : TypeId} {size n : Nat} (hB : B ≤ w.heap.size) (xs : List Value) (hn : xs.length = n * size) (hl : n ≤ maxLen) (h : w' = w.alloc (Obj.cells xs.toArray e)) : w'.ownsRow B e size (.slice (some ⟨w.heap.size, 0, none⟩) n n) n xs := by
 subst h
 refine ⟨hn, .inr ⟨w.heap.size, n, xs.toArray, rfl, hB, heap_alloc_new _ _, Nat.le_refl _, hl, by simpa using hn, ?_⟩⟩
 rw [List.toList_toArray, List.take_of_length_le (by omega)]
set_option maxHeartbeats 1600000 in
set_option maxRecDepth 100000 in
theorem refPiecesS_any (w : World) (m : SetM) (h : TxAt w m.a m.x.val.words) (hc : m.x.val.words.length ≤ m.c) (hl : m.x.val.words.length ≤ 2147483647) (hz : ∀ k (h : k < m.x.val.words.length), m.x.val.words[k].size ≤ maxLen) (ht : m.x.val.text.size ≤ 4294967280) :
  Calls Tryz.prog 79 #[.agg #[.string m.x.name, .int .i64 m.x.val.kind, .int .i64 m.x.val.int, .string m.x.val.text, .slice m.a m.x.val.words.length m.c, .int .i64 m.x.from_]] w (PcRes w (piecesS m.x)) := by
 obtain ⟨⟨nm, ⟨kd, it, tx, ws⟩, fr⟩, a, mc⟩ := m
 simp only at h hc hl hz ht ⊢
 have HB : Hid (∀ o, Below w.heap.size w (w.alloc o)) := Lib.hid (below_one w)
 have HPC : Hid (∀ o, Calls Tryz.prog 28 #[.string tx] (w.alloc o) (PcRes (w.alloc o) (piecesB tx.data.toList))) := Lib.hid fun o => refPieces_any tx (w.alloc o) ht
 have HPR : Hid (∀ o, Calls Tryz.prog 111 #[argV ⟨kd, it, tx, ws⟩ a mc] (w.alloc o) fun e w' => e = .returned (.tuple #[.string (mkB (printR ⟨kd, it, tx, ws⟩).1), .int .i64 (printR ⟨kd, it, tx, ws⟩).2]) ∧ Below (w.alloc o).heap.size (w.alloc o) w') := Lib.hid fun o => refPrint_any (w.alloc o) ⟨kd, it, tx, ws⟩ a mc ⟨TxAt.below h (below_one w o), hc, by simp only; omega, hz, by simp only; unfold maxLen; omega⟩ hl
 unfold argV at HPR
 simp only at HPR
 unfold piecesS
 simp only
 clear h hc hl hz ht
 by_cases hk : kd = 5
 ·subst hk
  rw [if_pos rfl]
  obtain ⟨R, hR⟩ : ∃ R, piecesB tx.data.toList = R := ⟨_, rfl⟩
  rw [hR] at HPC ⊢
  clear hR HPR
  go_enter Tryz.func79, Tryz.ntmps79
  go_wp2_with fail
  refine (HPC.out _).mono ?_
  rintro e w2 ⟨hb2, h2⟩
  have HB2 := Lib.hid ((HB.out _).trans (hb2.mono (HB.out _).size))
  cases R with
  | none =>
   simp only at h2
   subst h2
   clear hb2
   go_wp2
   go_ret2
   exact ⟨HB2.out, rfl⟩
  | some l =>
   simp only at h2
   obtain ⟨v, rfl, hr⟩ := h2
   have HR := Lib.hid (ownLess hr (HB.out _).size)
   clear hb2 hr
   go_wp2
   go_ret2
   exact ⟨HB2.out, _, rfl, HR.out⟩
 ·rw [if_neg hk]
  go_enter Tryz.func79, Tryz.ntmps79
  go_wp2_with fail
  refine (HPR.out _).mono ?_
  rintro e w2 ⟨rfl, hb2⟩
  have HB2 := Lib.hid ((HB.out _).trans (hb2.mono (HB.out _).size))
  generalize (printR ⟨kd, it, tx, ws⟩).1 = pb at *
  generalize (printR ⟨kd, it, tx, ws⟩).2 = pe at *
  have HNR : Hid ((w2.alloc (Obj.cells #[.string (mkB pb), .bool false] 71)).ownsRow w.heap.size 71 2 (.slice (some ⟨w2.heap.size, 0, none⟩) 1 1) 1 (pFlat [(pb, false)]) ∧ Below w.heap.size w (w2.alloc (Obj.cells #[.string (mkB pb), .bool false] 71))) := Lib.hid
   ⟨newRow HB2.out.size (pFlat [(pb, false)]) rfl (by decide) rfl, HB2.out.trans ((below_one w2 _).mono HB2.out.size)⟩
  clear hb2 HPR HPC
  go_wp2
  go_ret2
  exact ⟨HNR.out.2, _, rfl, HNR.out.1⟩
end Go.Proofs.YtopghlnoklajkaaGreatDoor
