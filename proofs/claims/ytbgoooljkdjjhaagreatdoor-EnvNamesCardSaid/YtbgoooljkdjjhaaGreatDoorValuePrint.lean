/-
  The walks of 'value.printed' and 'value.Print'.
-/
import Derived.Test.YtbgoooljkdjjhaaGreatDoorValueRight
import Derived.Test.YtbgoooljkdjjhaaGreatDoorValueBest
namespace Go.Proofs.YtbgoooljkdjjhaaGreatDoor
open Go.ChangeShapes Go.WideShapes Go.ChangeAt Go.RowKit

theorem mkB_append (a b : List UInt8) : mkB a ++ mkB b = mkB (a ++ b) := by
  rw [← mkB_self (mkB a ++ mkB b)]
  congr 1
theorem unitFor_pos (k n : Int) : 1 ≤ (unitFor k n).1 ∧ (unitFor k n).1 ≤ 1073741824 := by
  unfold unitFor; repeat' split
  all_goals simp

theorem nDigits_bd : ∀ (k u : Nat), u < 10 ^ (k + 1) → Lib.nDigits u ≤ k + 1
  | 0, u, h => by rw [Lib.nDigits_small (by simpa using h)]; omega
  | k + 1, u, h => by
    by_cases hs : u < 10
    · rw [Lib.nDigits_small hs]; omega
    · rw [Lib.nDigits_big hs]
      have := nDigits_bd k (u / 10) (by rw [Nat.pow_succ] at h; omega)
      omega
theorem itoa_len (n : Int) (h0 : -9223372036854775808 ≤ n) (h1 : n ≤ 9223372036854775807) : (Lib.itoa n).length ≤ 20 := by
  unfold Lib.itoa
  split
  · rw [List.length_cons, Lib.decDigits_length]
    have := nDigits_bd 18 n.natAbs (by have : (10 : Nat) ^ (18 + 1) = 10000000000000000000 := by decide
                                       omega)
    omega
  · rw [Lib.decDigits_length]
    have := nDigits_bd 18 n.toNat (by have : (10 : Nat) ^ (18 + 1) = 10000000000000000000 := by decide
                                      omega)
    omega
theorem unit_len (k n : Int) : (unitFor k n).2.length ≤ 1 := by
  unfold unitFor; repeat' split
  all_goals simp

theorem right_cases {v : Val} (hr : rightV v = true) :
    (v.kind = 1 ∧ (0 ≤ v.int ∧ v.int ≤ 1) ∧ v.text.data.toList = [] ∧ v.words.length = 0) ∨
    (v.kind = 2 ∧ (-4611686018427387904 ≤ v.int ∧ v.int ≤ 4611686018427387904) ∧ v.text.data.toList = [] ∧ v.words.length = 0) ∨
    ((v.kind = 3 ∨ v.kind = 4) ∧ (0 ≤ v.int ∧ v.int ≤ mostV v.kind) ∧ v.text.data.toList = [] ∧ v.words.length = 0) ∨
    (v.kind = 5 ∧ v.int = 0 ∧ textV v.text.data.toList = 0 ∧ v.words.length = 0) ∨
    (v.kind = 6 ∧ v.int = 0 ∧ v.text.data.toList = [] ∧ v.words.length ≤ 16 ∧ allWords (wl v.words) = true ∧ (joinW v.words).length ≤ 200) := by
  unfold rightV at hr
  by_cases h1 : v.kind = 1
  · rw [if_pos h1] at hr; simp only [Bool.and_eq_true, decide_eq_true_eq] at hr; exact Or.inl ⟨h1, hr.1.1, hr.1.2, hr.2⟩
  rw [if_neg h1] at hr
  by_cases h2 : v.kind = 2
  · rw [if_pos h2] at hr; simp only [Bool.and_eq_true, decide_eq_true_eq] at hr; exact Or.inr (Or.inl ⟨h2, hr.1.1, hr.1.2, hr.2⟩)
  rw [if_neg h2] at hr
  by_cases h3 : v.kind = 3 ∨ v.kind = 4
  · rw [if_pos h3] at hr; simp only [Bool.and_eq_true, decide_eq_true_eq] at hr; exact Or.inr (Or.inr (Or.inl ⟨h3, hr.1.1, hr.1.2, hr.2⟩))
  rw [if_neg h3] at hr
  by_cases h5 : v.kind = 5
  · rw [if_pos h5] at hr; simp only [Bool.and_eq_true, decide_eq_true_eq] at hr; exact Or.inr (Or.inr (Or.inr (Or.inl ⟨h5, hr.1.1, hr.1.2, hr.2⟩)))
  rw [if_neg h5] at hr
  by_cases h6 : v.kind = 6
  · rw [if_pos h6] at hr; unfold wordsRight at hr; simp only [Bool.and_eq_true, decide_eq_true_eq] at hr; exact Or.inr (Or.inr (Or.inr (Or.inr ⟨h6, hr.1.1, hr.1.2, hr.2.1.1, hr.2.1.2, hr.2.2⟩)))
  rw [if_neg h6] at hr; cases hr
theorem textV_zero {s : List UInt8} (h : textV s = 0) : allText s = true ∧ s.length ≤ 200 := by
  unfold textV at h
  cases ha : allText s with
  | false => rw [ha] at h; simp at h
  | true =>
    refine ⟨rfl, ?_⟩
    rw [ha] at h
    rcases Nat.lt_or_ge 200 s.length with h2 | h2
    · rw [if_neg (by simp), if_pos h2] at h; cases h
    · exact h2
theorem print_len {v : Val} (hr : rightV v = true) : (printV v).length ≤ 200 := by
  rcases right_cases hr with ⟨h, _⟩ | ⟨h, hn, _⟩ | ⟨h, hn, _⟩ | ⟨h, _, ht, _⟩ | ⟨h, _, _, _, _, hj⟩
  · unfold printV; rw [if_pos h]; split <;> simp
  · unfold printV; rw [if_neg (by omega), if_pos h]
    have := itoa_len v.int (by omega) (by omega); omega
  · unfold printV; rw [if_neg (by omega), if_neg (by omega), if_pos h, List.length_append]
    have hm : mostV v.kind ≤ 4611686018427387904 := by unfold mostV; repeat' split
                                                       all_goals omega
    have hu := unitFor_pos v.kind v.int
    have hd := Int.ediv_le_self (unitFor v.kind v.int).1 hn.1
    have hd0 := Int.ediv_nonneg hn.1 (show 0 ≤ (unitFor v.kind v.int).1 by omega)
    have := itoa_len (v.int / (unitFor v.kind v.int).1) (by omega) (by omega)
    have := unit_len v.kind v.int
    omega
  · unfold printV; rw [if_neg (by omega), if_neg (by omega), if_neg (by omega), if_pos h]
    exact (textV_zero ht).2
  · unfold printV; rw [if_neg (by omega), if_neg (by omega), if_neg (by omega), if_neg (by omega)]
    exact hj

end Go.Proofs.YtbgoooljkdjjhaaGreatDoor
