/-
  The walk of the document's own 'greatest'. (Written by wip/tools/gen_great.py.)
-/
import Derived.Test.YtolibkcdfhbdiaaDoorValueRefDigits
namespace Go.Proofs.YtolibkcdfhbdiaaDoor
open Go.ChangeShapes Go.WideShapes Go.ChangeAt Go.RowKit

def no3 (n : Int) (k : Nat) : Prop := 0 < n → (0 < k → ¬ n % 1073741824 = 0) ∧ (1 < k → ¬ n % 1048576 = 0) ∧ (2 < k → ¬ n % 1024 = 0)
theorem great3_0 (n : Int) (hn : 0 < n) (h : no3 n 0) (hd : n % 1073741824 = 0) : unitFor 3 n = (1073741824, [103]) := by
  obtain ⟨h0, h1, h2⟩ := h hn
  unfold unitFor
  rw [if_pos rfl, if_pos ⟨hn, hd⟩]
theorem great3_1 (n : Int) (hn : 0 < n) (h : no3 n 1) (hd : n % 1048576 = 0) : unitFor 3 n = (1048576, [109]) := by
  obtain ⟨h0, h1, h2⟩ := h hn
  unfold unitFor
  rw [if_pos rfl, if_neg (fun h => h0 (by omega) h.2), if_pos ⟨hn, hd⟩]
theorem great3_2 (n : Int) (hn : 0 < n) (h : no3 n 2) (hd : n % 1024 = 0) : unitFor 3 n = (1024, [107]) := by
  obtain ⟨h0, h1, h2⟩ := h hn
  unfold unitFor
  rw [if_pos rfl, if_neg (fun h => h0 (by omega) h.2), if_neg (fun h => h1 (by omega) h.2), if_pos ⟨hn, hd⟩]
theorem great3_end (n : Int) (h : no3 n 3 ∨ ¬ 0 < n) : unitFor 3 n = (1, []) := by
  have h' : ∀ u : Int, (u = 1073741824 ∨ u = 1048576 ∨ u = 1024) → ¬ (0 < n ∧ n % u = 0) := by
    rintro u hu ⟨hn, hd⟩
    rcases h with h | h
    · obtain ⟨h0, h1, h2⟩ := h hn
      rcases hu with rfl | rfl | rfl
      · exact h0 (by omega) hd
      · exact h1 (by omega) hd
      · exact h2 (by omega) hd
    · exact h hn
  unfold unitFor
  rw [if_pos rfl, if_neg (h' _ (Or.inl rfl)), if_neg (h' _ (Or.inr (Or.inl rfl))), if_neg (h' _ (Or.inr (Or.inr rfl)))]

set_option maxHeartbeats 3200000 in
set_option maxRecDepth 100000 in
theorem refGreat3_any (n : Int) (h0 : 0 ≤ n) (h1 : n ≤ 1125899906842624) (w : World) :
    Calls Tryd.prog 46 #[.int .i64 3, .int .i64 n, .string ⟨#[103, 109, 107]⟩] w fun e w' => e = .returned (.string (mkB (Lib.itoa (n / (unitFor 3 n).1) ++ (unitFor 3 n).2))) ∧ Below w.heap.size w w' := by
  obtain ⟨R, hR⟩ : ∃ R, mkB (Lib.itoa (n / (unitFor 3 n).1) ++ (unitFor 3 n).2) = R := ⟨_, rfl⟩
  have HR := Lib.hid hR
  rw [hR]
  clear hR
  have HS : Hid (no3 n 0) := Lib.hid (fun _ => ⟨fun h => by omega, fun h => by omega, fun h => by omega⟩)
  go_enter Tryd.func46, Tryd.ntmps46
  go_wp2
  go_loop [7] (fun i => ∃ k : Nat, i = .int .i64 k ∧ k ≤ 3 ∧ Hid (no3 n k)) (fun i => 3 - (intOf i).toNat)
  case atStart => exact ⟨0, rfl, by omega, HS⟩
  case round =>
    clear HS
    obtain ⟨k, rfl, hk, HK⟩ := hrel
    by_cases hfin : k = 3 ∨ ¬ 0 < n
    · have HU := Lib.hid (great3_end n (hfin.imp (fun e => by subst e; exact HK.out) id))
      have HQ := Lib.hid (refDigits_any n (by omega) (by omega))
      have hsz : (mkB (Lib.itoa n)).size ≤ 20 := by rw [mkB_size]; exact itoa_len n (by omega) (by omega)
      have HV : Hid (R = mkB (Lib.itoa n)) := Lib.hid (by rw [← HR.out, HU.out]; simp only [Int.ediv_one]; rw [List.append_nil])
      generalize mkB (Lib.itoa n) = P at HQ HV hsz
      have hcat : ¬ (9223372036854775807 < P.size + (⟨#[115]⟩ : ByteArray).size) := by have h2 : (⟨#[115]⟩ : ByteArray).size = 1 := rfl; omega
      rcases hfin with rfl | hn
      · clear HK hsz
        go_wp2_with fail
        refine (HQ.out _).mono ?_
        rintro e w2 ⟨rfl, hb2⟩
        go_wp2
        go_ret
        exact ⟨ret_val (by rw [HV.out]; rfl), hb2⟩
      · have hn0 : n = 0 := by omega
        subst hn0
        clear HK hn hsz
        by_cases hk3 : k < 3
        · have q1 : (k : Int) < 3 := by omega
          go_wp2_with fail
          refine (HQ.out _).mono ?_
          rintro e w2 ⟨rfl, hb2⟩
          go_wp2
          go_ret
          exact ⟨ret_val (by rw [HV.out]; rfl), hb2⟩
        · have q1 : ¬ (k : Int) < 3 := by omega
          go_wp2_with fail
          refine (HQ.out _).mono ?_
          rintro e w2 ⟨rfl, hb2⟩
          go_wp2
          go_ret
          exact ⟨ret_val (by rw [HV.out]; rfl), hb2⟩
    have hn : 0 < n := by omega
    have hk3 : k < 3 := by omega
    clear hfin
    rcases k with _ | _ | _ | k
    rotate_right
    · omega
    · have hB1 : (⟨#[103]⟩ : ByteArray).size = 1 := rfl
      have hB2 := Lib.hid (show (⟨#[103]⟩ : ByteArray) = mkB [103] from rfl)
      have hcut : ∀ W : World, (Instr.slice 9 (.string ⟨#[103, 109, 107]⟩) (some (.int .i64 0)) (some (.int .i64 1)) none).run Tryd.prog W = .ok (.string ⟨#[103]⟩) W := fun W => run_slice_string (P := Tryd.prog) W 9 (⟨#[103, 109, 107]⟩ : ByteArray) .i64 .i64 0 1 Tryd.underlying9 (by decide) (by decide) (by decide)
      have HU : Hid (unitV 3 (⟨#[103]⟩ : ByteArray).data.toList = 1073741824) := Lib.hid rfl
      generalize (⟨#[103]⟩ : ByteArray) = B at hcut HU hB1 hB2
      by_cases hd : n % 1073741824 = 0
      · have d1 : (n % 1073741824 == 0) = true := beq_iff_eq.2 hd
        have HF := Lib.hid (great3_0 n hn HK.out hd)
        obtain ⟨q, hq⟩ : ∃ q, n / 1073741824 = q := ⟨_, rfl⟩
        have hq0 : 0 ≤ q := by omega
        have hq1 : q ≤ n := by omega
        have e1 : Int.tdiv n 1073741824 = q := by rw [Int.tdiv_eq_ediv_of_nonneg h0]; exact hq
        have w1 : IntKind.i64.wrap q = q := IntWalk.i64_in _ (by omega)
        have w4 : IntKind.i64.wrap 1 = 1 := IntWalk.i64_in _ (by omega)
        have HQ := Lib.hid (refDigits_any q (by omega) (by omega))
        have hsz : (mkB (Lib.itoa q)).size ≤ 20 := by rw [mkB_size]; exact itoa_len q (by omega) (by omega)
        have HV : Hid (R = mkB (Lib.itoa q) ++ B) := Lib.hid (by rw [← HR.out, HF.out]; simp only [hq]; rw [hB2.out, mkB_append])
        generalize mkB (Lib.itoa q) = P at HQ HV hsz
        have hcat : ¬ (9223372036854775807 < P.size + B.size) := by omega
        clear hB1 hd hq hsz HK HF hk hk3
        go_wp2_with fail
        refine (refUnit_any 3 B _).mono ?_
        rintro e w' ⟨rfl, rfl⟩
        rw [HU.out]
        go_wp2
        go_region_held3 (fun _ => True) (trivial) (first | (go_at_call 45; (with_reducible refine (HQ.out _).mono ?_); rintro e w2 ⟨rfl, hb2⟩))
        all_goals
          go_wp2
          go_ret
          exact ⟨ret_val (by rw [HV.out]; rfl), (below_drewN w 1).trans (hb2.mono (Nat.le_refl _))⟩
      · have d1 : (n % 1073741824 == 0) = false := beq_eq_false_iff_ne.2 hd
        have HN : Hid (no3 n 1) := Lib.hid (fun hn' => by
          obtain ⟨h0, h1, h2⟩ := HK.out hn'
          exact ⟨fun _ => hd, fun h => by omega, fun h => by omega⟩)
        clear hd HK hk hk3 hB1
        go_wp2_with fail
        refine (refUnit_any 3 B _).mono ?_
        rintro e w' ⟨rfl, rfl⟩
        rw [HU.out]
        go_wp2
        go_round
        case rel => exact ⟨1, rfl, by omega, HN⟩
        case measure => simp [intOf]
    · have hB1 : (⟨#[109]⟩ : ByteArray).size = 1 := rfl
      have hB2 := Lib.hid (show (⟨#[109]⟩ : ByteArray) = mkB [109] from rfl)
      have hcut : ∀ W : World, (Instr.slice 9 (.string ⟨#[103, 109, 107]⟩) (some (.int .i64 1)) (some (.int .i64 2)) none).run Tryd.prog W = .ok (.string ⟨#[109]⟩) W := fun W => run_slice_string (P := Tryd.prog) W 9 (⟨#[103, 109, 107]⟩ : ByteArray) .i64 .i64 1 2 Tryd.underlying9 (by decide) (by decide) (by decide)
      have HU : Hid (unitV 3 (⟨#[109]⟩ : ByteArray).data.toList = 1048576) := Lib.hid rfl
      generalize (⟨#[109]⟩ : ByteArray) = B at hcut HU hB1 hB2
      by_cases hd : n % 1048576 = 0
      · have d1 : (n % 1048576 == 0) = true := beq_iff_eq.2 hd
        have HF := Lib.hid (great3_1 n hn HK.out hd)
        obtain ⟨q, hq⟩ : ∃ q, n / 1048576 = q := ⟨_, rfl⟩
        have hq0 : 0 ≤ q := by omega
        have hq1 : q ≤ n := by omega
        have e1 : Int.tdiv n 1048576 = q := by rw [Int.tdiv_eq_ediv_of_nonneg h0]; exact hq
        have w1 : IntKind.i64.wrap q = q := IntWalk.i64_in _ (by omega)
        have w4 : IntKind.i64.wrap 2 = 2 := IntWalk.i64_in _ (by omega)
        have HQ := Lib.hid (refDigits_any q (by omega) (by omega))
        have hsz : (mkB (Lib.itoa q)).size ≤ 20 := by rw [mkB_size]; exact itoa_len q (by omega) (by omega)
        have HV : Hid (R = mkB (Lib.itoa q) ++ B) := Lib.hid (by rw [← HR.out, HF.out]; simp only [hq]; rw [hB2.out, mkB_append])
        generalize mkB (Lib.itoa q) = P at HQ HV hsz
        have hcat : ¬ (9223372036854775807 < P.size + B.size) := by omega
        clear hB1 hd hq hsz HK HF hk hk3
        go_wp2_with fail
        refine (refUnit_any 3 B _).mono ?_
        rintro e w' ⟨rfl, rfl⟩
        rw [HU.out]
        go_wp2
        go_region_held3 (fun _ => True) (trivial) (first | (go_at_call 45; (with_reducible refine (HQ.out _).mono ?_); rintro e w2 ⟨rfl, hb2⟩))
        all_goals
          go_wp2
          go_ret
          exact ⟨ret_val (by rw [HV.out]; rfl), (below_drewN w 1).trans (hb2.mono (Nat.le_refl _))⟩
      · have d1 : (n % 1048576 == 0) = false := beq_eq_false_iff_ne.2 hd
        have HN : Hid (no3 n 2) := Lib.hid (fun hn' => by
          obtain ⟨h0, h1, h2⟩ := HK.out hn'
          exact ⟨fun h => h0 (by omega), fun _ => hd, fun h => by omega⟩)
        clear hd HK hk hk3 hB1
        go_wp2_with fail
        refine (refUnit_any 3 B _).mono ?_
        rintro e w' ⟨rfl, rfl⟩
        rw [HU.out]
        go_wp2
        go_round
        case rel => exact ⟨2, rfl, by omega, HN⟩
        case measure => simp [intOf]
    · have hB1 : (⟨#[107]⟩ : ByteArray).size = 1 := rfl
      have hB2 := Lib.hid (show (⟨#[107]⟩ : ByteArray) = mkB [107] from rfl)
      have hcut : ∀ W : World, (Instr.slice 9 (.string ⟨#[103, 109, 107]⟩) (some (.int .i64 2)) (some (.int .i64 3)) none).run Tryd.prog W = .ok (.string ⟨#[107]⟩) W := fun W => run_slice_string (P := Tryd.prog) W 9 (⟨#[103, 109, 107]⟩ : ByteArray) .i64 .i64 2 3 Tryd.underlying9 (by decide) (by decide) (by decide)
      have HU : Hid (unitV 3 (⟨#[107]⟩ : ByteArray).data.toList = 1024) := Lib.hid rfl
      generalize (⟨#[107]⟩ : ByteArray) = B at hcut HU hB1 hB2
      by_cases hd : n % 1024 = 0
      · have d1 : (n % 1024 == 0) = true := beq_iff_eq.2 hd
        have HF := Lib.hid (great3_2 n hn HK.out hd)
        obtain ⟨q, hq⟩ : ∃ q, n / 1024 = q := ⟨_, rfl⟩
        have hq0 : 0 ≤ q := by omega
        have hq1 : q ≤ n := by omega
        have e1 : Int.tdiv n 1024 = q := by rw [Int.tdiv_eq_ediv_of_nonneg h0]; exact hq
        have w1 : IntKind.i64.wrap q = q := IntWalk.i64_in _ (by omega)
        have w4 : IntKind.i64.wrap 3 = 3 := IntWalk.i64_in _ (by omega)
        have HQ := Lib.hid (refDigits_any q (by omega) (by omega))
        have hsz : (mkB (Lib.itoa q)).size ≤ 20 := by rw [mkB_size]; exact itoa_len q (by omega) (by omega)
        have HV : Hid (R = mkB (Lib.itoa q) ++ B) := Lib.hid (by rw [← HR.out, HF.out]; simp only [hq]; rw [hB2.out, mkB_append])
        generalize mkB (Lib.itoa q) = P at HQ HV hsz
        have hcat : ¬ (9223372036854775807 < P.size + B.size) := by omega
        clear hB1 hd hq hsz HK HF hk hk3
        go_wp2_with fail
        refine (refUnit_any 3 B _).mono ?_
        rintro e w' ⟨rfl, rfl⟩
        rw [HU.out]
        go_wp2
        go_region_held3 (fun _ => True) (trivial) (first | (go_at_call 45; (with_reducible refine (HQ.out _).mono ?_); rintro e w2 ⟨rfl, hb2⟩))
        all_goals
          go_wp2
          go_ret
          exact ⟨ret_val (by rw [HV.out]; rfl), (below_drewN w 1).trans (hb2.mono (Nat.le_refl _))⟩
      · have d1 : (n % 1024 == 0) = false := beq_eq_false_iff_ne.2 hd
        have HN : Hid (no3 n 3) := Lib.hid (fun hn' => by
          obtain ⟨h0, h1, h2⟩ := HK.out hn'
          exact ⟨fun h => h0 (by omega), fun h => h1 (by omega), fun _ => hd⟩)
        clear hd HK hk hk3 hB1
        go_wp2_with fail
        refine (refUnit_any 3 B _).mono ?_
        rintro e w' ⟨rfl, rfl⟩
        rw [HU.out]
        go_wp2
        go_round
        case rel => exact ⟨3, rfl, by omega, HN⟩
        case measure => simp [intOf]
def no4 (n : Int) (k : Nat) : Prop := 0 < n → (0 < k → ¬ n % 86400 = 0) ∧ (1 < k → ¬ n % 3600 = 0) ∧ (2 < k → ¬ n % 60 = 0)
theorem great4_0 (n : Int) (hn : 0 < n) (h : no4 n 0) (hd : n % 86400 = 0) : unitFor 4 n = (86400, [100]) := by
  obtain ⟨h0, h1, h2⟩ := h hn
  unfold unitFor
  rw [if_neg (by decide), if_pos ⟨hn, hd⟩]
theorem great4_1 (n : Int) (hn : 0 < n) (h : no4 n 1) (hd : n % 3600 = 0) : unitFor 4 n = (3600, [104]) := by
  obtain ⟨h0, h1, h2⟩ := h hn
  unfold unitFor
  rw [if_neg (by decide), if_neg (fun h => h0 (by omega) h.2), if_pos ⟨hn, hd⟩]
theorem great4_2 (n : Int) (hn : 0 < n) (h : no4 n 2) (hd : n % 60 = 0) : unitFor 4 n = (60, [109]) := by
  obtain ⟨h0, h1, h2⟩ := h hn
  unfold unitFor
  rw [if_neg (by decide), if_neg (fun h => h0 (by omega) h.2), if_neg (fun h => h1 (by omega) h.2), if_pos ⟨hn, hd⟩]
theorem great4_end (n : Int) (h : no4 n 3 ∨ ¬ 0 < n) : unitFor 4 n = (1, [115]) := by
  have h' : ∀ u : Int, (u = 86400 ∨ u = 3600 ∨ u = 60) → ¬ (0 < n ∧ n % u = 0) := by
    rintro u hu ⟨hn, hd⟩
    rcases h with h | h
    · obtain ⟨h0, h1, h2⟩ := h hn
      rcases hu with rfl | rfl | rfl
      · exact h0 (by omega) hd
      · exact h1 (by omega) hd
      · exact h2 (by omega) hd
    · exact h hn
  unfold unitFor
  rw [if_neg (by decide), if_neg (h' _ (Or.inl rfl)), if_neg (h' _ (Or.inr (Or.inl rfl))), if_neg (h' _ (Or.inr (Or.inr rfl)))]

set_option maxHeartbeats 3200000 in
set_option maxRecDepth 100000 in
theorem refGreat4_any (n : Int) (h0 : 0 ≤ n) (h1 : n ≤ 1099511627776) (w : World) :
    Calls Tryd.prog 46 #[.int .i64 4, .int .i64 n, .string ⟨#[100, 104, 109]⟩] w fun e w' => e = .returned (.string (mkB (Lib.itoa (n / (unitFor 4 n).1) ++ (unitFor 4 n).2))) ∧ Below w.heap.size w w' := by
  obtain ⟨R, hR⟩ : ∃ R, mkB (Lib.itoa (n / (unitFor 4 n).1) ++ (unitFor 4 n).2) = R := ⟨_, rfl⟩
  have HR := Lib.hid hR
  rw [hR]
  clear hR
  have HS : Hid (no4 n 0) := Lib.hid (fun _ => ⟨fun h => by omega, fun h => by omega, fun h => by omega⟩)
  go_enter Tryd.func46, Tryd.ntmps46
  go_wp2
  go_loop [7] (fun i => ∃ k : Nat, i = .int .i64 k ∧ k ≤ 3 ∧ Hid (no4 n k)) (fun i => 3 - (intOf i).toNat)
  case atStart => exact ⟨0, rfl, by omega, HS⟩
  case round =>
    clear HS
    obtain ⟨k, rfl, hk, HK⟩ := hrel
    by_cases hfin : k = 3 ∨ ¬ 0 < n
    · have HU := Lib.hid (great4_end n (hfin.imp (fun e => by subst e; exact HK.out) id))
      have HQ := Lib.hid (refDigits_any n (by omega) (by omega))
      have hsz : (mkB (Lib.itoa n)).size ≤ 20 := by rw [mkB_size]; exact itoa_len n (by omega) (by omega)
      have HV : Hid (R = mkB (Lib.itoa n) ++ (⟨#[115]⟩ : ByteArray)) := Lib.hid (by rw [← HR.out, HU.out]; simp only [Int.ediv_one]; rw [show (⟨#[115]⟩ : ByteArray) = mkB [115] from rfl, mkB_append])
      generalize mkB (Lib.itoa n) = P at HQ HV hsz
      have hcat : ¬ (9223372036854775807 < P.size + (⟨#[115]⟩ : ByteArray).size) := by have h2 : (⟨#[115]⟩ : ByteArray).size = 1 := rfl; omega
      rcases hfin with rfl | hn
      · clear HK hsz
        go_wp2_with fail
        refine (HQ.out _).mono ?_
        rintro e w2 ⟨rfl, hb2⟩
        go_wp2
        go_ret
        exact ⟨ret_val (by rw [HV.out]; rfl), hb2⟩
      · have hn0 : n = 0 := by omega
        subst hn0
        clear HK hn hsz
        by_cases hk3 : k < 3
        · have q1 : (k : Int) < 3 := by omega
          go_wp2_with fail
          refine (HQ.out _).mono ?_
          rintro e w2 ⟨rfl, hb2⟩
          go_wp2
          go_ret
          exact ⟨ret_val (by rw [HV.out]; rfl), hb2⟩
        · have q1 : ¬ (k : Int) < 3 := by omega
          go_wp2_with fail
          refine (HQ.out _).mono ?_
          rintro e w2 ⟨rfl, hb2⟩
          go_wp2
          go_ret
          exact ⟨ret_val (by rw [HV.out]; rfl), hb2⟩
    have hn : 0 < n := by omega
    have hk3 : k < 3 := by omega
    clear hfin
    rcases k with _ | _ | _ | k
    rotate_right
    · omega
    · have hB1 : (⟨#[100]⟩ : ByteArray).size = 1 := rfl
      have hB2 := Lib.hid (show (⟨#[100]⟩ : ByteArray) = mkB [100] from rfl)
      have hcut : ∀ W : World, (Instr.slice 9 (.string ⟨#[100, 104, 109]⟩) (some (.int .i64 0)) (some (.int .i64 1)) none).run Tryd.prog W = .ok (.string ⟨#[100]⟩) W := fun W => run_slice_string (P := Tryd.prog) W 9 (⟨#[100, 104, 109]⟩ : ByteArray) .i64 .i64 0 1 Tryd.underlying9 (by decide) (by decide) (by decide)
      have HU : Hid (unitV 4 (⟨#[100]⟩ : ByteArray).data.toList = 86400) := Lib.hid rfl
      generalize (⟨#[100]⟩ : ByteArray) = B at hcut HU hB1 hB2
      by_cases hd : n % 86400 = 0
      · have d1 : (n % 86400 == 0) = true := beq_iff_eq.2 hd
        have HF := Lib.hid (great4_0 n hn HK.out hd)
        obtain ⟨q, hq⟩ : ∃ q, n / 86400 = q := ⟨_, rfl⟩
        have hq0 : 0 ≤ q := by omega
        have hq1 : q ≤ n := by omega
        have e1 : Int.tdiv n 86400 = q := by rw [Int.tdiv_eq_ediv_of_nonneg h0]; exact hq
        have w1 : IntKind.i64.wrap q = q := IntWalk.i64_in _ (by omega)
        have w4 : IntKind.i64.wrap 1 = 1 := IntWalk.i64_in _ (by omega)
        have HQ := Lib.hid (refDigits_any q (by omega) (by omega))
        have hsz : (mkB (Lib.itoa q)).size ≤ 20 := by rw [mkB_size]; exact itoa_len q (by omega) (by omega)
        have HV : Hid (R = mkB (Lib.itoa q) ++ B) := Lib.hid (by rw [← HR.out, HF.out]; simp only [hq]; rw [hB2.out, mkB_append])
        generalize mkB (Lib.itoa q) = P at HQ HV hsz
        have hcat : ¬ (9223372036854775807 < P.size + B.size) := by omega
        clear hB1 hd hq hsz HK HF hk hk3
        go_wp2_with fail
        refine (refUnit_any 4 B _).mono ?_
        rintro e w' ⟨rfl, rfl⟩
        rw [HU.out]
        go_wp2
        go_region_held3 (fun _ => True) (trivial) (first | (go_at_call 45; (with_reducible refine (HQ.out _).mono ?_); rintro e w2 ⟨rfl, hb2⟩))
        all_goals
          go_wp2
          go_ret
          exact ⟨ret_val (by rw [HV.out]; rfl), (below_drewN w 1).trans (hb2.mono (Nat.le_refl _))⟩
      · have d1 : (n % 86400 == 0) = false := beq_eq_false_iff_ne.2 hd
        have HN : Hid (no4 n 1) := Lib.hid (fun hn' => by
          obtain ⟨h0, h1, h2⟩ := HK.out hn'
          exact ⟨fun _ => hd, fun h => by omega, fun h => by omega⟩)
        clear hd HK hk hk3 hB1
        go_wp2_with fail
        refine (refUnit_any 4 B _).mono ?_
        rintro e w' ⟨rfl, rfl⟩
        rw [HU.out]
        go_wp2
        go_round
        case rel => exact ⟨1, rfl, by omega, HN⟩
        case measure => simp [intOf]
    · have hB1 : (⟨#[104]⟩ : ByteArray).size = 1 := rfl
      have hB2 := Lib.hid (show (⟨#[104]⟩ : ByteArray) = mkB [104] from rfl)
      have hcut : ∀ W : World, (Instr.slice 9 (.string ⟨#[100, 104, 109]⟩) (some (.int .i64 1)) (some (.int .i64 2)) none).run Tryd.prog W = .ok (.string ⟨#[104]⟩) W := fun W => run_slice_string (P := Tryd.prog) W 9 (⟨#[100, 104, 109]⟩ : ByteArray) .i64 .i64 1 2 Tryd.underlying9 (by decide) (by decide) (by decide)
      have HU : Hid (unitV 4 (⟨#[104]⟩ : ByteArray).data.toList = 3600) := Lib.hid rfl
      generalize (⟨#[104]⟩ : ByteArray) = B at hcut HU hB1 hB2
      by_cases hd : n % 3600 = 0
      · have d1 : (n % 3600 == 0) = true := beq_iff_eq.2 hd
        have HF := Lib.hid (great4_1 n hn HK.out hd)
        obtain ⟨q, hq⟩ : ∃ q, n / 3600 = q := ⟨_, rfl⟩
        have hq0 : 0 ≤ q := by omega
        have hq1 : q ≤ n := by omega
        have e1 : Int.tdiv n 3600 = q := by rw [Int.tdiv_eq_ediv_of_nonneg h0]; exact hq
        have w1 : IntKind.i64.wrap q = q := IntWalk.i64_in _ (by omega)
        have w4 : IntKind.i64.wrap 2 = 2 := IntWalk.i64_in _ (by omega)
        have HQ := Lib.hid (refDigits_any q (by omega) (by omega))
        have hsz : (mkB (Lib.itoa q)).size ≤ 20 := by rw [mkB_size]; exact itoa_len q (by omega) (by omega)
        have HV : Hid (R = mkB (Lib.itoa q) ++ B) := Lib.hid (by rw [← HR.out, HF.out]; simp only [hq]; rw [hB2.out, mkB_append])
        generalize mkB (Lib.itoa q) = P at HQ HV hsz
        have hcat : ¬ (9223372036854775807 < P.size + B.size) := by omega
        clear hB1 hd hq hsz HK HF hk hk3
        go_wp2_with fail
        refine (refUnit_any 4 B _).mono ?_
        rintro e w' ⟨rfl, rfl⟩
        rw [HU.out]
        go_wp2
        go_region_held3 (fun _ => True) (trivial) (first | (go_at_call 45; (with_reducible refine (HQ.out _).mono ?_); rintro e w2 ⟨rfl, hb2⟩))
        all_goals
          go_wp2
          go_ret
          exact ⟨ret_val (by rw [HV.out]; rfl), (below_drewN w 1).trans (hb2.mono (Nat.le_refl _))⟩
      · have d1 : (n % 3600 == 0) = false := beq_eq_false_iff_ne.2 hd
        have HN : Hid (no4 n 2) := Lib.hid (fun hn' => by
          obtain ⟨h0, h1, h2⟩ := HK.out hn'
          exact ⟨fun h => h0 (by omega), fun _ => hd, fun h => by omega⟩)
        clear hd HK hk hk3 hB1
        go_wp2_with fail
        refine (refUnit_any 4 B _).mono ?_
        rintro e w' ⟨rfl, rfl⟩
        rw [HU.out]
        go_wp2
        go_round
        case rel => exact ⟨2, rfl, by omega, HN⟩
        case measure => simp [intOf]
    · have hB1 : (⟨#[109]⟩ : ByteArray).size = 1 := rfl
      have hB2 := Lib.hid (show (⟨#[109]⟩ : ByteArray) = mkB [109] from rfl)
      have hcut : ∀ W : World, (Instr.slice 9 (.string ⟨#[100, 104, 109]⟩) (some (.int .i64 2)) (some (.int .i64 3)) none).run Tryd.prog W = .ok (.string ⟨#[109]⟩) W := fun W => run_slice_string (P := Tryd.prog) W 9 (⟨#[100, 104, 109]⟩ : ByteArray) .i64 .i64 2 3 Tryd.underlying9 (by decide) (by decide) (by decide)
      have HU : Hid (unitV 4 (⟨#[109]⟩ : ByteArray).data.toList = 60) := Lib.hid rfl
      generalize (⟨#[109]⟩ : ByteArray) = B at hcut HU hB1 hB2
      by_cases hd : n % 60 = 0
      · have d1 : (n % 60 == 0) = true := beq_iff_eq.2 hd
        have HF := Lib.hid (great4_2 n hn HK.out hd)
        obtain ⟨q, hq⟩ : ∃ q, n / 60 = q := ⟨_, rfl⟩
        have hq0 : 0 ≤ q := by omega
        have hq1 : q ≤ n := by omega
        have e1 : Int.tdiv n 60 = q := by rw [Int.tdiv_eq_ediv_of_nonneg h0]; exact hq
        have w1 : IntKind.i64.wrap q = q := IntWalk.i64_in _ (by omega)
        have w4 : IntKind.i64.wrap 3 = 3 := IntWalk.i64_in _ (by omega)
        have HQ := Lib.hid (refDigits_any q (by omega) (by omega))
        have hsz : (mkB (Lib.itoa q)).size ≤ 20 := by rw [mkB_size]; exact itoa_len q (by omega) (by omega)
        have HV : Hid (R = mkB (Lib.itoa q) ++ B) := Lib.hid (by rw [← HR.out, HF.out]; simp only [hq]; rw [hB2.out, mkB_append])
        generalize mkB (Lib.itoa q) = P at HQ HV hsz
        have hcat : ¬ (9223372036854775807 < P.size + B.size) := by omega
        clear hB1 hd hq hsz HK HF hk hk3
        go_wp2_with fail
        refine (refUnit_any 4 B _).mono ?_
        rintro e w' ⟨rfl, rfl⟩
        rw [HU.out]
        go_wp2
        go_region_held3 (fun _ => True) (trivial) (first | (go_at_call 45; (with_reducible refine (HQ.out _).mono ?_); rintro e w2 ⟨rfl, hb2⟩))
        all_goals
          go_wp2
          go_ret
          exact ⟨ret_val (by rw [HV.out]; rfl), (below_drewN w 1).trans (hb2.mono (Nat.le_refl _))⟩
      · have d1 : (n % 60 == 0) = false := beq_eq_false_iff_ne.2 hd
        have HN : Hid (no4 n 3) := Lib.hid (fun hn' => by
          obtain ⟨h0, h1, h2⟩ := HK.out hn'
          exact ⟨fun h => h0 (by omega), fun h => h1 (by omega), fun _ => hd⟩)
        clear hd HK hk hk3 hB1
        go_wp2_with fail
        refine (refUnit_any 4 B _).mono ?_
        rintro e w' ⟨rfl, rfl⟩
        rw [HU.out]
        go_wp2
        go_round
        case rel => exact ⟨3, rfl, by omega, HN⟩
        case measure => simp [intOf]
end Go.Proofs.YtolibkcdfhbdiaaDoor
