/-
  The walk of the document's own 'digits' and 'greatest'.
-/
import Derived.Test.YtolibkcdfhbdiaaDoorValuePrint
import Derived.Test.YtolibkcdfhbdiaaDoorValueUnited
import Derived.Deep.RegionHeld3
import Derived.IntWalk
namespace Go.Proofs.YtolibkcdfhbdiaaDoor
open Go.ChangeShapes Go.WideShapes Go.ChangeAt Go.RowKit

theorem digit_cut (d : Nat) (h : d < 10) : (⟨#[48, 49, 50, 51, 52, 53, 54, 55, 56, 57]⟩ : ByteArray).extract d (d + 1) = mkB [UInt8.ofNat (48 + d)] := by
  rcases d with _ | _ | _ | _ | _ | _ | _ | _ | _ | _ | d
  all_goals first | rfl | omega
theorem run_cut (d : Nat) (h : d < 10) (W : World) : (Instr.slice 9 (.string ⟨#[48, 49, 50, 51, 52, 53, 54, 55, 56, 57]⟩) (some (.int .i64 (d : Int))) (some (.int .i64 ((d : Int) + 1))) none).run Tryd.prog W = .ok (.string (mkB [UInt8.ofNat (48 + d)])) W := by
  have := run_slice_string (P := Tryd.prog) W 9 (⟨#[48, 49, 50, 51, 52, 53, 54, 55, 56, 57]⟩ : ByteArray) .i64 .i64 (d : Int) ((d : Int) + 1) Tryd.underlying9 (by omega) (by omega) (by show (d : Int) + 1 ≤ 10; omega)
  rw [this, show ((d : Int) + 1).toNat = d + 1 by omega, Int.toNat_natCast, digit_cut d h]
theorem dec_len (u : Nat) (h : u ≤ 4611686018427387904) : (mkB (Lib.decDigits u)).size ≤ 20 := by
  have := itoa_len (u : Int) (by omega) (by omega)
  unfold Lib.itoa at this
  rw [if_neg (by omega), Int.toNat_natCast] at this
  rw [mkB_size]; exact this
theorem dec_more {u Q D : Nat} (h : ¬ u < 10) (hq : u / 10 = Q) (hd : u % 10 = D) : mkB (Lib.decDigits u) = mkB (Lib.decDigits Q) ++ mkB [UInt8.ofNat (48 + D)] := by
  rw [Lib.decDigits, dif_neg h, hq, hd, mkB_append]

set_option maxHeartbeats 1600000 in
set_option maxRecDepth 100000 in
theorem digitsNat_any (u : Nat) : u ≤ 4611686018427387904 → ∀ w : World, Calls Tryd.prog 45 #[.int .i64 (u : Int)] w fun e w' => e = .returned (.string (mkB (Lib.decDigits u))) ∧ Below w.heap.size w w' := by
  induction u using Nat.strongRecOn with
  | _ u ih =>
    intro hu w
    by_cases h : u < 10
    · have q1 : (0 : Int) ≤ u := by omega
      have q2 : (u : Int) < 10 := by omega
      have hc := run_cut u h
      have hv : mkB (Lib.decDigits u) = mkB [UInt8.ofNat (48 + u)] := by rw [Lib.decDigits_one h]
      generalize mkB [UInt8.ofNat (48 + u)] = B at hc hv
      have HV := Lib.hid hv
      clear hv
      clear ih hu
      go_enter Tryd.func45, Tryd.ntmps45
      go_wp2
      go_ret
      exact ⟨ret_val (by rw [HV.out]; rfl), Below.refl _ _⟩
    · obtain ⟨Q, hQ⟩ : ∃ Q, u / 10 = Q := ⟨_, rfl⟩
      obtain ⟨D, hD⟩ : ∃ D, u % 10 = D := ⟨_, rfl⟩
      have hv := dec_more h hQ hD
      have hih := ih Q (by omega) (by omega)
      have hDl : D < 10 := by omega
      have q1 : (0 : Int) ≤ u := by omega
      have q2 : ¬ (u : Int) < 10 := by omega
      have e1 : Int.tdiv (u : Int) 10 = (Q : Int) := by rw [Int.tdiv_eq_ediv_of_nonneg q1]; omega
      have e2 : Int.tmod (u : Int) 10 = (D : Int) := by rw [Int.tmod_eq_emod_of_nonneg q1]; omega
      have w1 : IntKind.i64.wrap (Q : Int) = Q := IntWalk.i64_in _ (by omega)
      have w2 : IntKind.i64.wrap (D : Int) = D := IntWalk.i64_in _ (by omega)
      have w3 : IntKind.i64.wrap ((D : Int) + 1) = D + 1 := IntWalk.i64_in _ (by omega)
      have q3 : (0 : Int) ≤ D := by omega
      have q4 : (D : Int) + 1 ≤ 10 := by omega
      have hc := run_cut D hDl
      have hcat : ¬ (9223372036854775807 < (mkB (Lib.decDigits Q)).size + (mkB [UInt8.ofNat (48 + D)]).size) := by have h1 := dec_len Q (by omega); have h2 : (mkB [UInt8.ofNat (48 + D)]).size = 1 := (by rw [mkB_size]; rfl); omega
      generalize mkB [UInt8.ofNat (48 + D)] = B at hc hcat hv
      generalize mkB (Lib.decDigits Q) = P at hcat hv hih
      have HV := Lib.hid hv
      have HIH := Lib.hid hih
      clear ih h hQ hD hv hih
      go_enter Tryd.func45, Tryd.ntmps45
      go_wp2
      go_region_held3 (fun _ => True) (trivial) (first | (go_at_call 45; (with_reducible refine (HIH.out _).mono ?_); rintro e w2 ⟨rfl, hb2⟩))
      all_goals
        go_wp2
        go_ret
        exact ⟨ret_val (by rw [HV.out]; rfl), (below_drewN w 1).trans (hb2.mono (Nat.le_refl _))⟩
theorem refDigits_any (n : Int) (h0 : -4611686018427387904 ≤ n) (h1 : n ≤ 4611686018427387904) (w : World) :
    Calls Tryd.prog 45 #[.int .i64 n] w fun e w' => e = .returned (.string (mkB (Lib.itoa n))) ∧ Below w.heap.size w w' := by
  by_cases hn : n < 0
  · obtain ⟨m, rfl⟩ : ∃ m : Nat, n = -(m : Int) := ⟨n.natAbs, by omega⟩
    have HV : Hid (mkB (Lib.itoa (-(m : Int))) = (⟨#[45]⟩ : ByteArray) ++ mkB (Lib.decDigits m)) := Lib.hid (by
      unfold Lib.itoa
      rw [if_pos hn, show (-(m : Int)).natAbs = m by omega, show (⟨#[45]⟩ : ByteArray) = mkB [45] from rfl, mkB_append]; rfl)
    have HIH := Lib.hid (digitsNat_any m (by omega))
    have d1 : (-(m : Int)) < 0 := hn
    have d2 : (0 : Int) < m := by omega
    have hcat : ¬ (9223372036854775807 < (⟨#[45]⟩ : ByteArray).size + (mkB (Lib.decDigits m)).size) := by have h1 := dec_len m (by omega); have h2 : (⟨#[45]⟩ : ByteArray).size = 1 := rfl; omega
    clear hn
    go_enter Tryd.func45, Tryd.ntmps45
    go_wp2_with fail
    refine (HIH.out _).mono ?_
    rintro e w2 ⟨rfl, hb2⟩
    go_wp2
    go_ret
    exact ⟨ret_val (by rw [HV.out]; rfl), hb2⟩
  · obtain ⟨m, rfl⟩ : ∃ m : Nat, n = (m : Int) := ⟨n.toNat, by omega⟩
    have hv : Lib.itoa (m : Int) = Lib.decDigits m := by unfold Lib.itoa; rw [if_neg hn, Int.toNat_natCast]
    rw [hv]
    exact digitsNat_any m (by omega) w
end Go.Proofs.YtolibkcdfhbdiaaDoor
