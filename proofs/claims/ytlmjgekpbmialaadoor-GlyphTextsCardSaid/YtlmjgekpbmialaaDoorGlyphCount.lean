/-
  The walks of 'glyph.Count' and of the document's own 'Count'; of the law's 'addsUp'.
-/
import Derived.Test.YtlmjgekpbmialaaDoorGlyphClass
namespace Go.Proofs.YtlmjgekpbmialaaDoor
open Go.ChangeShapes Go.WideShapes Go.ChangeAt Go.RowKit

/-- How many of the first k numbers are of a class. -/
def cnt (c : Int) : Nat → Int
  | 0 => 0
  | k + 1 => cnt c k + if cls k = c then 1 else 0
theorem cnt_in (c : Int) : ∀ k : Nat, 0 ≤ cnt c k ∧ cnt c k ≤ k
  | 0 => by simp [cnt]
  | k + 1 => by have := cnt_in c k; unfold cnt; split <;> omega
theorem cnt_yes {c : Int} {k : Nat} (h : cls k = c) : cnt c (k + 1) = cnt c k + 1 := by rw [cnt, if_pos h]
theorem cnt_no {c : Int} {k : Nat} (h : ¬ cls k = c) : cnt c (k + 1) = cnt c k := by rw [cnt, if_neg h]; omega

def cntAll (c : Int) : Int := cnt c 256

set_option maxRecDepth 100000 in
set_option maxHeartbeats 400000 in
theorem count_any (c : Int) (w : World) (hT : Tab w) :
    Calls Tryd.prog 11 #[.int .i64 c] w fun e w' => e = .returned (.int .i64 (cntAll c)) ∧ w = w' := by
  go_enter Tryd.func11, Tryd.ntmps11
  go_wp2
  go_loop [3, 5] (fun n i => ∃ k : Nat, k ≤ 256 ∧ i = .int .i64 k ∧ n = .int .i64 (cnt c k)) (fun _ i => 256 - (intOf i).toNat)
  case atStart => exact ⟨0, by omega, rfl, rfl⟩
  case round =>
    obtain ⟨k, hk, rfl, rfl⟩ := hrel
    obtain ⟨hn0, hn1⟩ := cnt_in c k
    by_cases hlt : k < 256
    · by_cases hc : cls k = c
      · have HS := Lib.hid (cnt_yes hc)
        have hb : (cls (k : Int) == c) = true := beq_iff_eq.2 hc
        clear hc
        go_wp2_with (go_at_call 9; refine (class_any _ _ hT).mono ?_; rintro e w' ⟨rfl, rfl⟩)
        go_round
        case rel => exact ⟨k + 1, by omega, by go_num, by rw [HS.out]⟩
        case measure => simp [intOf]; omega
      · have HS := Lib.hid (cnt_no hc)
        have hb : (cls (k : Int) == c) = false := beq_eq_false_iff_ne.2 hc
        clear hc
        go_wp2_with (go_at_call 9; refine (class_any _ _ hT).mono ?_; rintro e w' ⟨rfl, rfl⟩)
        go_round
        case rel => exact ⟨k + 1, by omega, by go_num, by rw [HS.out]⟩
        case measure => simp [intOf]; omega
    · obtain rfl : k = 256 := by omega
      go_wp2
      go_ret
      exact ⟨rfl, rfl⟩

set_option maxRecDepth 100000 in
set_option maxHeartbeats 400000 in
theorem refCount_any (c : Int) (w : World) :
    Calls Tryd.prog 12 #[.int .i64 c] w fun e w' => e = .returned (.int .i64 (cntAll c)) ∧ w = w' := by
  go_enter Tryd.func12, Tryd.ntmps12
  go_wp2
  go_loop [3, 4] (fun n i => ∃ k : Nat, k ≤ 256 ∧ i = .int .i64 k ∧ n = .int .i64 (cnt c k)) (fun _ i => 256 - (intOf i).toNat)
  case atStart => exact ⟨0, by omega, rfl, rfl⟩
  case round =>
    obtain ⟨k, hk, rfl, rfl⟩ := hrel
    obtain ⟨hn0, hn1⟩ := cnt_in c k
    by_cases hlt : k < 256
    · by_cases hc : cls k = c
      · have HS := Lib.hid (cnt_yes hc)
        have hb : (cls (k : Int) == c) = true := beq_iff_eq.2 hc
        clear hc
        go_wp2_with (go_at_call 10; refine (refClass_any _ _).mono ?_; rintro e w' ⟨rfl, rfl⟩)
        go_round
        case rel => exact ⟨k + 1, by omega, by go_num, by rw [HS.out]⟩
        case measure => simp [intOf]; omega
      · have HS := Lib.hid (cnt_no hc)
        have hb : (cls (k : Int) == c) = false := beq_eq_false_iff_ne.2 hc
        clear hc
        go_wp2_with (go_at_call 10; refine (refClass_any _ _).mono ?_; rintro e w' ⟨rfl, rfl⟩)
        go_round
        case rel => exact ⟨k + 1, by omega, by go_num, by rw [HS.out]⟩
        case measure => simp [intOf]; omega
    · obtain rfl : k = 256 := by omega
      go_wp2
      go_ret
      exact ⟨rfl, rfl⟩

theorem addsUp_any (n m : Int) (w : World) (h0 : 0 ≤ n) (h1 : 0 ≤ m) :
    Calls Tryd.prog 13 #[.int .i64 n, .int .i64 m] w fun e w' => e = .returned (.int .i64 (if 2147483647 < n ∨ 2147483647 < m then 2147483648 else n + m)) ∧ w = w' := by
  by_cases a : 2147483647 < n
  · rw [if_pos (Or.inl a)]
    go_enter Tryd.func13, Tryd.ntmps13
    go_wp2
    go_ret
    exact ⟨rfl, rfl⟩
  · by_cases b : 2147483647 < m
    · rw [if_pos (Or.inr b)]
      go_enter Tryd.func13, Tryd.ntmps13
      go_wp2
      go_ret
      exact ⟨rfl, rfl⟩
    · rw [if_neg (by omega)]
      go_enter Tryd.func13, Tryd.ntmps13
      go_wp2
      go_ret
      exact ⟨rfl, rfl⟩
end Go.Proofs.YtlmjgekpbmialaaDoor
