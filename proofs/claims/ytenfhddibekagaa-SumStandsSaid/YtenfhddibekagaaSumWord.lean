/-
  The walks of 'sum.word' and of the document's own 'Word': for a byte both give the same number, 'turns 8' of it.
-/
import Derived.Test.YtenfhddibekagaaRows
import Derived.WalkKit
import Derived.ProofKit
import Derived.OpenShut
import Derived.WalkLawsBesides
import Derived.Lib.Hide
namespace Go.Proofs.Ytenfhddibekagaa
open Go.ChangeShapes Go.WideShapes Go.ChangeAt Go.RowKit

/-- One turn of a word, as the document says it. -/
def turn (y : Int) : Int := if y % 2 = 1 then bits .xor .u32 (y / 2) 3988292384 else y / 2
def turns : Nat → Int → Int
  | 0, y => y
  | k + 1, y => turn (turns k y)

theorem turn_in {y : Int} (h0 : 0 ≤ y) (h1 : y ≤ 4294967295) : 0 ≤ turn y ∧ turn y ≤ 4294967295 := by
  unfold turn
  split
  · exact bounds_u32 (wf_bits _ _ _ _)
  · omega
theorem turns_in {y : Int} (h0 : 0 ≤ y) (h1 : y ≤ 4294967295) : ∀ k, 0 ≤ turns k y ∧ turns k y ≤ 4294967295
  | 0 => ⟨h0, h1⟩
  | k + 1 => by have := turns_in h0 h1 k; exact turn_in this.1 this.2
theorem and1 {y : Int} (h0 : 0 ≤ y) (h1 : y ≤ 4294967295) : bits .and .u32 y 1 = y % 2 := by
  rw [u32_and y 1 h0 (by omega) (by omega) (by omega)]
  have : (1 : Int).toNat = 1 := rfl
  rw [this, nat_mask1]; omega
theorem and255 {n : Int} (h0 : 0 ≤ n) (h1 : n ≤ 255) : bits .and .i64 n 255 = n := by
  have h := bits_mask .i64 62 (by decide) (fun m a b => by rw [IntKind.wrap_i64]; omega) 8 (by decide) n h0 (by omega)
  have e : ((2 : Int) ^ 8 - 1) = 255 := by decide
  have e2 : ((2 : Int) ^ 8) = 256 := by decide
  rw [e, e2] at h
  rw [h]; omega

set_option maxHeartbeats 400000 in
theorem word_any (x : Int) (w : World) (h0 : 0 ≤ x) (h1 : x ≤ 4294967295) :
    Calls Try.prog 8 #[.int .u32 x] w fun e w' => e = .returned (.int .u32 (turns 8 x)) ∧ w = w' := by
  go_enter Try.func8, Try.ntmps8
  go_wp2
  go_loop [0, 3] (fun t i => ∃ k : Nat, k ≤ 8 ∧ i = .int .i64 k ∧ t = .int .u32 (turns k x)) (fun _ i => 8 - (intOf i).toNat)
  case atStart => exact ⟨0, by omega, rfl, rfl⟩
  case round =>
    obtain ⟨k, hk, rfl, rfl⟩ := hrel
    obtain ⟨hy0, hy1⟩ := turns_in h0 h1 k
    have HA := Lib.hid (and1 hy0 hy1)
    have HT : Hid (turns (k + 1) x = turn (turns k x)) := rfl
    by_cases hlt : k < 8
    · go_wp2
      · have ho : (bits BinOp.and IntKind.u32 (turns k x) 1 == 1) = true := by assumption
        rw [HA.out] at ho
        have ho' : turns k x % 2 = 1 := by simpa using ho
        go_round
        case rel => exact ⟨k + 1, by omega, by go_num, by rw [HT.out, turn, if_pos ho']⟩
        case measure => simp [intOf]; omega
      · have ho : (bits BinOp.and IntKind.u32 (turns k x) 1 == 1) = false := by assumption
        rw [HA.out] at ho
        have ho' : ¬ turns k x % 2 = 1 := by simpa using ho
        go_round
        case rel => exact ⟨k + 1, by omega, by go_num, by rw [HT.out, turn, if_neg ho']⟩
        case measure => simp [intOf]; omega
    · obtain rfl : k = 8 := by omega
      go_wp2
      go_ret
      exact ⟨rfl, rfl⟩

set_option maxHeartbeats 400000 in
theorem refWord_any (x : Int) (w : World) (h0 : 0 ≤ x) (h1 : x ≤ 255) :
    Calls Try.prog 6 #[.int .i64 x] w fun e w' => e = .returned (.int .u32 (turns 8 x)) ∧ w = w' := by
  have ha := and255 h0 h1
  go_enter Try.func6, Try.ntmps6
  go_wp2
  clear ha
  go_loop [3, 4] (fun t i => ∃ k : Nat, k ≤ 8 ∧ i = .int .i64 k ∧ t = .int .u32 (turns k x)) (fun _ i => 8 - (intOf i).toNat)
  case atStart => exact ⟨0, by omega, rfl, rfl⟩
  case round =>
    obtain ⟨k, hk, rfl, rfl⟩ := hrel
    obtain ⟨hy0, hy1⟩ := turns_in h0 (by omega) k
    have HT : Hid (turns (k + 1) x = turn (turns k x)) := rfl
    by_cases hlt : k < 8
    · go_wp2
      · have ho : (turns k x % 2 == 1) = true := by assumption
        have ho' : turns k x % 2 = 1 := by simpa using ho
        go_round
        case rel => exact ⟨k + 1, by omega, by go_num, by rw [HT.out, turn, if_pos ho']⟩
        case measure => simp [intOf]; omega
      · have ho : (turns k x % 2 == 1) = false := by assumption
        have ho' : ¬ turns k x % 2 = 1 := by simpa using ho
        go_round
        case rel => exact ⟨k + 1, by omega, by go_num, by rw [HT.out, turn, if_neg ho']⟩
        case measure => simp [intOf]; omega
    · obtain rfl : k = 8 := by omega
      go_wp2
      go_ret
      exact ⟨rfl, rfl⟩
end Go.Proofs.Ytenfhddibekagaa
