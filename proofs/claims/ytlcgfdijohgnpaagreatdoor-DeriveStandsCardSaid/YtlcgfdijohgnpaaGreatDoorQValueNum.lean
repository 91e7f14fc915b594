/-
  ValueNum.
-/
import Derived.Test.YtlcgfdijohgnpaaGreatDoorQValueUnit
import Derived.Deep.RegionLaw
namespace Go.Proofs.YtlcgfdijohgnpaaGreatDoor
open Go.ChangeShapes Go.WideShapes Go.ChangeAt Go.RowKit

theorem numOkS_lead48 {s : ByteArray} (h0 : 0 < s.size) (h : numOkS s.data.toList = true) (h1 : 1 < nDig s.data.toList) : ¬ s[0].toNat = 48 := fun h48 => by
 rw [numOkS_lead h0 h1 h48] at h; cases h
theorem numOkS_pos {l : List UInt8} (h : numOkS l = true) : 0 < nDig l := by
 rcases Nat.eq_zero_or_pos (nDig l) with h0 | h0
 ·rw [numOkS_zero h0] at h; cases h
 ·exact h0

set_option maxHeartbeats 1600000 in
set_option maxRecDepth 100000 in
theorem number_yes (s r : ByteArray) (w : World) (hT : Tab w) (hs : s.size ≤ maxLen) (h : numOkS s.data.toList = true) (hr : r = mkB (s.data.toList.dropWhile isD)) :
  Calls Tryz.prog 128 #[.string s] w fun e w' => e = .returned (.tuple #[.int .i64 (capN (dec (s.data.toList.takeWhile isD))), .string r, .bool true]) ∧ Below w.heap.size w w' := by
 have hs' := hs
 unfold maxLen at hs'
 have hle := nDig_le s.data.toList
 have hsz : s.data.toList.length = s.size := by simp
 have hp := numOkS_pos h
 have hpos : 0 < s.size := by omega
 have h48 := numOkS_lead48 hpos h
 have htk := nDig_take s.data.toList
 have hdp := nDig_drop s.data.toList
 have hall := takeWhile_all s.data.toList
 rw [← htk]
 rw [← htk] at hall
 rw [← hdp] at hr
 obtain ⟨n, hn⟩ : ∃ n, nDig s.data.toList = n := ⟨_, rfl⟩
 have HN := Lib.hid hn
 rw [hn] at hle hp h48 hall hr ⊢
 rw [hsz] at hle
 have hx : (s.extract 0 n).data.toList = s.data.toList.take n := Lib.extract_from_zero s n
 have hy : s.extract n s.size = r := by rw [hr, ← Lib.extract_to_end, mkB_self]
 have HX := Lib.hid hx
 have HY := Lib.hid hy
 have hALL : Hid ((s.extract 0 n).data.toList.all isD = true) := Lib.hid (by rw [hx]; exact hall)
 have hSZ : Hid ((s.extract 0 n).size ≤ maxLen) := Lib.hid (by unfold maxLen; rw [ByteArray.size_extract]; omega)
 have d2 : ((n : Int) == 0) = false := beq_eq_false_iff_ne.2 (by omega)
 have q1 : (0 : Int) ≤ n := by omega
 have q2 : (n : Int) ≤ s.size := by omega
 rw [← HX.out]
 clear hx hy hr hall htk hdp hn h hsz hs
 by_cases h1 : 1 < n
 ·have d3 : decide (1 < (n : Int)) = true := decide_eq_true (by omega)
  have d4 : ((s[0].toNat : Int) == 48) = false := beq_eq_false_iff_ne.2 (fun e => h48 h1 (by omega))
  clear h48 h1
  go_enter Tryz.func128, Tryz.ntmps128
  go_wp2_with fail
  refine (digits_any _ _ hT (by unfold maxLen; exact hs')).mono ?_
  rintro e w1 ⟨rfl, hb⟩
  rw [HN.out]
  go_wp2
  first
   | (go_region_law ((go_simp; (with_reducible refine (said_any _ _ hALL.out hSZ.out).mono ?_); rintro e w2 ⟨rfl, hb2⟩; dsimp only)))
   | fail
  all_goals
   go_wp2
   rw [HY.out]
   exact bodyPost_ret (v := .tuple #[.int .i64 (capN (dec (s.extract 0 n).data.toList)), .string r, .bool true]) (by simp [results, Tryz.results128, go_sem]) rfl ⟨rfl, hb.trans (((below_drewN w1 1).trans hb2).mono hb.size)⟩
 ·have d3 : decide (1 < (n : Int)) = false := decide_eq_false (by omega)
  clear h48 h1
  go_enter Tryz.func128, Tryz.ntmps128
  go_wp2_with fail
  refine (digits_any _ _ hT (by unfold maxLen; exact hs')).mono ?_
  rintro e w1 ⟨rfl, hb⟩
  rw [HN.out]
  go_wp2
  first
   | (go_region_law ((go_simp; (with_reducible refine (said_any _ _ hALL.out hSZ.out).mono ?_); rintro e w2 ⟨rfl, hb2⟩; dsimp only)))
   | fail
  all_goals
   go_wp2
   rw [HY.out]
   exact bodyPost_ret (v := .tuple #[.int .i64 (capN (dec (s.extract 0 n).data.toList)), .string r, .bool true]) (by simp [results, Tryz.results128, go_sem]) rfl ⟨rfl, hb.trans (((below_drewN w1 1).trans hb2).mono hb.size)⟩

def numR (p : Val × Int) : Value := .tuple #[.agg #[.int .i64 p.1.kind, .int .i64 p.1.int, .string p.1.text, .slice none 0 0], .int .i64 p.2]
end Go.Proofs.YtlcgfdijohgnpaaGreatDoor
