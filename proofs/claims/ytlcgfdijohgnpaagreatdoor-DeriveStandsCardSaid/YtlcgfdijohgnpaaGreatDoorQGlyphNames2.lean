/-
  GlyphSpec, GlyphClass, GlyphNames, GlyphNames2.
-/
import Derived.Test.YtlcgfdijohgnpaaGreatDoorRows
import Derived.WalkKit
import Derived.ProofKit
import Derived.OpenShut
import Derived.WalkLawsBesides
import Derived.Lib.Hide
namespace Go.Proofs.YtlcgfdijohgnpaaGreatDoor
open Go.ChangeShapes Go.WideShapes Go.ChangeAt Go.RowKit

def cls (b : Int) : Int :=
  if 97 ≤ b ∧ b ≤ 122 then 1 else if 65 ≤ b ∧ b ≤ 90 then 2 else if 48 ≤ b ∧ b ≤ 57 then 3
  else if b = 32 ∨ b = 9 then 4 else if b = 10 ∨ b = 13 then 6 else if 33 ≤ b ∧ b ≤ 126 then 5 else 0
theorem cls_in (b : Int) : 0 ≤ cls b ∧ cls b ≤ 6 := by unfold cls; repeat' split
                                                       all_goals omega
theorem cls_out {b : Int} (h : b < 0 ∨ 127 < b) : cls b = 0 := by
  unfold cls
  repeat' split
  all_goals omega

def Tab (w : World) : Prop :=
  (∀ i : Nat, i < 32 → w.cell? ⟨1, i, none⟩ = some (.int .u8 (cls i))) ∧
  (∀ i : Nat, i < 32 → w.cell? ⟨2, i, none⟩ = some (.int .u8 (cls (32 + i)))) ∧
  (∀ i : Nat, i < 32 → w.cell? ⟨3, i, none⟩ = some (.int .u8 (cls (64 + i)))) ∧
  (∀ i : Nat, i < 32 → w.cell? ⟨4, i, none⟩ = some (.int .u8 (cls (96 + i))))

theorem lt_of_cell {w : World} {b i : Nat} {v : Value} (h : w.cell? ⟨b, i, none⟩ = some v) : b < w.heap.size := by
  rcases Nat.lt_or_ge b w.heap.size with h1 | h1
  · exact h1
  · simp [World.cell?, Array.getElem?_eq_none h1] at h
theorem Tab.below {w w' : World} (h : Tab w) (hb : Below w.heap.size w w') : Tab w' := by
  obtain ⟨h0, h1, h2, h3⟩ := h
  refine ⟨fun i hi => ?_, fun i hi => ?_, fun i hi => ?_, fun i hi => ?_⟩
  · rw [hb.cell (lt_of_cell (h0 i hi))]; exact h0 i hi
  · rw [hb.cell (lt_of_cell (h1 i hi))]; exact h1 i hi
  · rw [hb.cell (lt_of_cell (h2 i hi))]; exact h2 i hi
  · rw [hb.cell (lt_of_cell (h3 i hi))]; exact h3 i hi
end Go.Proofs.YtlcgfdijohgnpaaGreatDoor

namespace Go.Proofs.YtlcgfdijohgnpaaGreatDoor
open Go.ChangeShapes Go.WideShapes Go.ChangeAt Go.RowKit

set_option maxHeartbeats 400000 in
theorem class_any (b : Int) (w : World) (hT : Tab w) :
  Calls Tryz.prog 83 #[.int .i64 b] w fun e w' => e = .returned (.int .i64 (cls b)) ∧ w = w' := by
 by_cases h0 : b < 0
 ·have hz := cls_out (Or.inl h0)
  rw [hz]; clear hz hT
  go_enter Tryz.func83, Tryz.ntmps83
  go_wp2
  go_ret
  exact ⟨rfl, rfl⟩
 by_cases h1 : 127 < b
 ·have hz := cls_out (Or.inr h1)
  rw [hz]; clear hz hT
  go_enter Tryz.func83, Tryz.ntmps83
  go_wp2
  go_ret
  exact ⟨rfl, rfl⟩
 obtain ⟨n, rfl⟩ := Int.eq_ofNat_of_zero_le (Int.not_lt.1 h0)
 obtain ⟨hc0, hc1⟩ := cls_in n
 by_cases h2 : n < 32
 ·have hc := hT.1 n h2
  clear hT
  go_enter Tryz.func83, Tryz.ntmps83
  go_wp2
  go_ret
  exact ⟨rfl, rfl⟩
 by_cases h3 : n < 64
 ·have hc := hT.2.1 (n - 32) (by omega)
  rw [show (32 + ((n - 32 : Nat) : Int)) = (n : Int) from by omega] at hc
  clear hT
  go_enter Tryz.func83, Tryz.ntmps83
  go_wp2
  go_ret
  exact ⟨rfl, rfl⟩
 by_cases h4 : n < 96
 ·have hc := hT.2.2.1 (n - 64) (by omega)
  rw [show (64 + ((n - 64 : Nat) : Int)) = (n : Int) from by omega] at hc
  clear hT
  go_enter Tryz.func83, Tryz.ntmps83
  go_wp2
  go_ret
  exact ⟨rfl, rfl⟩
 ·have hc := hT.2.2.2 (n - 96) (by omega)
  rw [show (96 + ((n - 96 : Nat) : Int)) = (n : Int) from by omega] at hc
  clear hT
  go_enter Tryz.func83, Tryz.ntmps83
  go_wp2
  go_ret
  exact ⟨rfl, rfl⟩

set_option maxHeartbeats 400000 in
theorem refClass_any (b : Int) (w : World) :
  Calls Tryz.prog 135 #[.int .i64 b] w fun e w' => e = .returned (.int .i64 (cls b)) ∧ w = w' := by
 by_cases h1 : 97 ≤ b ∧ b ≤ 122
 ·have hz : cls b = 1 := by unfold cls; rw [if_pos h1]
  rw [hz]; clear hz
  obtain ⟨h1, h1'⟩ := h1
  go_enter Tryz.func135, Tryz.ntmps135
  go_wp2
  go_ret
  exact ⟨rfl, rfl⟩
 by_cases h2 : 65 ≤ b ∧ b ≤ 90
 ·have hz : cls b = 2 := by unfold cls; rw [if_neg h1, if_pos h2]
  rw [hz]; clear hz h1
  obtain ⟨h2, h2'⟩ := h2
  go_enter Tryz.func135, Tryz.ntmps135
  go_wp2
  go_ret
  exact ⟨rfl, rfl⟩
 by_cases h3 : 48 ≤ b ∧ b ≤ 57
 ·have hz : cls b = 3 := by unfold cls; rw [if_neg h1, if_neg h2, if_pos h3]
  rw [hz]; clear hz h1 h2
  obtain ⟨h3, h3'⟩ := h3
  go_enter Tryz.func135, Tryz.ntmps135
  go_wp2
  go_ret
  exact ⟨rfl, rfl⟩
 by_cases h4 : b = 32
 ·subst h4
  have hz : cls 32 = 4 := by decide
  rw [hz]; clear hz h1 h2 h3
  go_enter Tryz.func135, Tryz.ntmps135
  go_wp2
  go_ret
  exact ⟨rfl, rfl⟩
 by_cases h5 : b = 9
 ·subst h5
  have hz : cls 9 = 4 := by decide
  rw [hz]; clear hz h1 h2 h3 h4
  go_enter Tryz.func135, Tryz.ntmps135
  go_wp2
  go_ret
  exact ⟨rfl, rfl⟩
 by_cases h6 : b = 10
 ·subst h6
  have hz : cls 10 = 6 := by decide
  rw [hz]; clear hz h1 h2 h3 h4 h5
  go_enter Tryz.func135, Tryz.ntmps135
  go_wp2
  go_ret
  exact ⟨rfl, rfl⟩
 by_cases h7 : b = 13
 ·subst h7
  have hz : cls 13 = 6 := by decide
  rw [hz]; clear hz h1 h2 h3 h4 h5 h6
  go_enter Tryz.func135, Tryz.ntmps135
  go_wp2
  go_ret
  exact ⟨rfl, rfl⟩
 have e32 : (b == 32) = false := beq_eq_false_iff_ne.2 h4
 have e9 : (b == 9) = false := beq_eq_false_iff_ne.2 h5
 have e10 : (b == 10) = false := beq_eq_false_iff_ne.2 h6
 have e13 : (b == 13) = false := beq_eq_false_iff_ne.2 h7
 by_cases h8 : 33 ≤ b ∧ b ≤ 126
 ·have hz : cls b = 5 := by unfold cls; rw [if_neg h1, if_neg h2, if_neg h3, if_neg (by omega), if_neg (by omega), if_pos h8]
  rw [hz]; clear hz
  obtain ⟨h8, h8'⟩ := h8
  rcases (by omega : b < 48 ∨ (57 < b ∧ b < 65) ∨ (90 < b ∧ b < 97) ∨ 122 < b) with h | ⟨h, h'⟩ | ⟨h, h'⟩ | h
  all_goals
   clear h1 h2 h3 h4 h5 h6 h7
   go_enter Tryz.func135, Tryz.ntmps135
   go_wp2
   go_ret
   exact ⟨rfl, rfl⟩
 ·have hz : cls b = 0 := by unfold cls; rw [if_neg h1, if_neg h2, if_neg h3, if_neg (by omega), if_neg (by omega), if_neg h8]
  rw [hz]; clear hz
  rcases (by omega : b < 33 ∨ 126 < b) with h | h
  all_goals
   clear h1 h2 h3 h4 h5 h6 h7 h8
   go_enter Tryz.func135, Tryz.ntmps135
   go_wp2
   go_ret
   exact ⟨rfl, rfl⟩
end Go.Proofs.YtlcgfdijohgnpaaGreatDoor

namespace Go.Proofs.YtlcgfdijohgnpaaGreatDoor
open Go.ChangeShapes Go.WideShapes Go.ChangeAt Go.RowKit

def printB (b : Int) : Bool := decide (32 ≤ b ∧ b ≤ 126)
def inWordB (b : Int) : Bool := decide (cls b = 1 ∨ cls b = 3 ∨ b = 45 ∨ b = 95 ∨ b = 46)
def allWord (l : List UInt8) : Bool := l.all fun c => inWordB c.toNat
def wordB (l : List UInt8) : Bool := decide (1 ≤ l.length ∧ l.length ≤ 32) && allWord l
def nameGo (p : Nat) (bg : Bool) : List UInt8 → Bool
 | [] => !bg && decide (p ≤ 3)
 | c :: r => if cls c.toNat = 1 then nameGo p false r else if bg = true then false else if (c.toNat : Int) = 46 then nameGo (p + 1) true r
  else if cls c.toNat = 3 then nameGo p bg r else false
def nameB (l : List UInt8) : Bool := decide (l.length ≤ 32) && nameGo 1 true l

theorem drop_byte (s : ByteArray) (k : Nat) (h : k < s.size) : s.data.toList.drop k = s[k] :: s.data.toList.drop (k + 1) := by
 rw [List.drop_eq_getElem_cons (by simpa using h)]; rfl
theorem byte_le (s : ByteArray) (k : Nat) (h : k < s.size) : (s[k].toNat : Int) ≤ 255 := by
 have := s[k].toNat_lt; omega

set_option maxHeartbeats 400000 in
theorem inWord_any (b : Int) (w : World) (hT : Tab w) (h0 : 0 ≤ b) (h1 : b ≤ 255) :
  Calls Tryz.prog 156 #[.int .u8 b] w fun e w' => e = .returned (.bool (inWordB b)) ∧ w = w' := by
 by_cases c1 : cls b = 1
 ·have hp : inWordB b = true := by simp [inWordB, c1]
  have d1 : (cls b == 1) = true := beq_iff_eq.2 c1
  rw [hp]; clear hp c1
  go_enter Tryz.func156, Tryz.ntmps156
  go_wp2_with (go_at_call 83; refine (class_any _ _ hT).mono ?_; rintro e w' ⟨rfl, rfl⟩)
  go_ret
  exact ⟨rfl, rfl⟩
 have d1 : (cls b == 1) = false := beq_eq_false_iff_ne.2 c1
 by_cases c2 : cls b = 3
 ·have hp : inWordB b = true := by simp [inWordB, c2]
  have d2 : (cls b == 3) = true := beq_iff_eq.2 c2
  rw [hp]; clear hp c1 c2
  go_enter Tryz.func156, Tryz.ntmps156
  go_wp2_with (go_at_call 83; refine (class_any _ _ hT).mono ?_; rintro e w' ⟨rfl, rfl⟩)
  go_ret
  exact ⟨rfl, rfl⟩
 have d2 : (cls b == 3) = false := beq_eq_false_iff_ne.2 c2
 have hp : inWordB b = (b == 45 || b == 95 || b == 46) := by rw [Bool.eq_iff_iff]; simp [inWordB, c1, c2, or_assoc]
 rw [hp]; clear hp c1 c2
 by_cases e1 : b = 45
 ·subst e1
  go_enter Tryz.func156, Tryz.ntmps156
  go_wp2_with (go_at_call 83; refine (class_any _ _ hT).mono ?_; rintro e w' ⟨rfl, rfl⟩)
  go_ret
  exact ⟨rfl, rfl⟩
 by_cases e2 : b = 95
 ·subst e2
  go_enter Tryz.func156, Tryz.ntmps156
  go_wp2_with (go_at_call 83; refine (class_any _ _ hT).mono ?_; rintro e w' ⟨rfl, rfl⟩)
  go_ret
  exact ⟨rfl, rfl⟩
 have f1 : (b == 45) = false := beq_eq_false_iff_ne.2 e1
 have f2 : (b == 95) = false := beq_eq_false_iff_ne.2 e2
 rw [f1, f2]
 by_cases e3 : b = 46
 ·subst e3
  go_enter Tryz.func156, Tryz.ntmps156
  go_wp2_with (go_at_call 83; refine (class_any _ _ hT).mono ?_; rintro e w' ⟨rfl, rfl⟩)
  go_ret
  exact ⟨rfl, rfl⟩
 have f3 : (b == 46) = false := beq_eq_false_iff_ne.2 e3
 rw [f3]
 clear e1 e2 e3
 go_enter Tryz.func156, Tryz.ntmps156
 go_wp2_with (go_at_call 83; refine (class_any _ _ hT).mono ?_; rintro e w' ⟨rfl, rfl⟩)
 go_ret
 exact ⟨rfl, rfl⟩

theorem wordB_long {l : List UInt8} (h : l.length = 0 ∨ 32 < l.length) : wordB l = false := by
 simp [wordB]; intros; omega
theorem allWord_cons (c : UInt8) (r : List UInt8) : allWord (c :: r) = (inWordB c.toNat && allWord r) := by simp [allWord]

set_option maxHeartbeats 400000 in
theorem isWord_any (s : ByteArray) (w : World) (hT : Tab w) (hs : s.size ≤ maxLen) :
  Calls Tryz.prog 147 #[.string s] w fun e w' => e = .returned (.bool (wordB s.data.toList)) ∧ w = w' := by
 unfold maxLen at hs
 have hl : s.data.toList.length = s.size := by simp
 by_cases h0 : s.size = 0
 ·rw [wordB_long (Or.inl (by omega))]
  have g0 : ((s.size : Int) == 0) = true := beq_iff_eq.2 (by omega)
  clear hl h0
  go_enter Tryz.func147, Tryz.ntmps147
  go_wp2
  go_ret
  exact ⟨rfl, rfl⟩
 have g0 : ((s.size : Int) == 0) = false := beq_eq_false_iff_ne.2 (by omega)
 by_cases h1 : 32 < s.size
 ·rw [wordB_long (Or.inr (by omega))]
  clear hl h0
  go_enter Tryz.func147, Tryz.ntmps147
  go_wp2
  go_ret
  exact ⟨rfl, rfl⟩
 have hw : wordB s.data.toList = allWord s.data.toList := by
  have : decide (1 ≤ s.data.toList.length ∧ s.data.toList.length ≤ 32) = true := by simp only [hl]; simp; omega
  rw [wordB, this]; rfl
 rw [hw]
 have h2 : decide (32 < (s.size : Int)) = false := by simp; omega
 clear hl h0 hw
 go_enter Tryz.func147, Tryz.ntmps147
 go_wp2
 go_loop [3] (fun i => ∃ k : Nat, k ≤ s.size ∧ i = .int .i64 k ∧ Hid (allWord s.data.toList = allWord (s.data.toList.drop k))) (fun i => s.size - (intOf i).toNat)
 case atStart => exact ⟨0, by omega, rfl, Lib.hid rfl⟩
 case round =>
  obtain ⟨k, hk, rfl, HR⟩ := hrel
  by_cases hlt : k < s.size
  ·have hb := byte_le s k hlt
   have HD := Lib.hid (drop_byte s k hlt)
   by_cases hc : inWordB s[k].toNat = true
   ·go_wp2_with (go_at_call 156; refine (inWord_any _ _ hT (by omega) (by omega)).mono ?_; rintro e w' ⟨rfl, rfl⟩)
    go_round
    case rel => exact ⟨k + 1, by omega, by go_num, Lib.hid (by rw [HR.out, HD.out, allWord_cons, hc]; rfl)⟩
    case measure => simp [intOf]; omega
   ·have hc' : inWordB s[k].toNat = false := by simpa using hc
    clear hc
    go_wp2_with (go_at_call 156; refine (inWord_any _ _ hT (by omega) (by omega)).mono ?_; rintro e w' ⟨rfl, rfl⟩)
    go_ret
    exact ⟨by rw [HR.out, HD.out, allWord_cons, hc']; rfl, rfl⟩
  ·go_wp2
   go_ret
   exact ⟨by rw [HR.out, List.drop_eq_nil_of_le (by simp; omega)]; rfl, rfl⟩
end Go.Proofs.YtlcgfdijohgnpaaGreatDoor

namespace Go.Proofs.YtlcgfdijohgnpaaGreatDoor
open Go.ChangeShapes Go.WideShapes Go.ChangeAt Go.RowKit

theorem ret_bool {a b : Bool} (h : b = a) : Ending.returned (.bool a) = .returned (.bool b) := by rw [h]
theorem nameB_long {l : List UInt8} (h : 32 < l.length) : nameB l = false := by
 simp [nameB]; intros; omega
theorem nameGo_small {p : Nat} {bg : Bool} {c : UInt8} {r : List UInt8} (h : cls c.toNat = 1) : nameGo p bg (c :: r) = nameGo p false r := by rw [nameGo, if_pos h]
theorem nameGo_begin {p : Nat} {c : UInt8} {r : List UInt8} (h : ¬ cls c.toNat = 1) : nameGo p true (c :: r) = false := by rw [nameGo, if_neg h, if_pos rfl]
theorem nameGo_point {p : Nat} {c : UInt8} {r : List UInt8} (h : ¬ cls c.toNat = 1) (h2 : (c.toNat : Int) = 46) : nameGo p false (c :: r) = nameGo (p + 1) true r := by rw [nameGo, if_neg h, if_neg (by simp), if_pos h2]
theorem nameGo_digit {p : Nat} {c : UInt8} {r : List UInt8} (h : ¬ cls c.toNat = 1) (h2 : ¬ (c.toNat : Int) = 46) (h3 : cls c.toNat = 3) : nameGo p false (c :: r) = nameGo p false r := by rw [nameGo, if_neg h, if_neg (by simp), if_neg h2, if_pos h3]
theorem nameGo_no {p : Nat} {c : UInt8} {r : List UInt8} (h : ¬ cls c.toNat = 1) (h2 : ¬ (c.toNat : Int) = 46) (h3 : ¬ cls c.toNat = 3) : nameGo p false (c :: r) = false := by rw [nameGo, if_neg h, if_neg (by simp), if_neg h2, if_neg h3]

set_option maxHeartbeats 800000 in
theorem isName_any (s : ByteArray) (w : World) (hT : Tab w) (hs : s.size ≤ maxLen) :
  Calls Tryz.prog 55 #[.string s] w fun e w' => e = .returned (.bool (nameB s.data.toList)) ∧ w = w' := by
 unfold maxLen at hs
 have hl : s.data.toList.length = s.size := by simp
 by_cases h1 : 32 < s.size
 ·rw [nameB_long (by omega)]
  clear hl
  go_enter Tryz.func55, Tryz.ntmps55
  go_wp2
  go_ret
  exact ⟨rfl, rfl⟩
 have hw : nameB s.data.toList = nameGo 1 true s.data.toList := by
  have : decide (s.data.toList.length ≤ 32) = true := by simp only [hl]; simp; omega
  rw [nameB, this]; rfl
 rw [hw]
 have h2 : decide (32 < (s.size : Int)) = false := by simp; omega
 clear hl hw
 go_enter Tryz.func55, Tryz.ntmps55
 go_wp2
 go_loop [3, 4, 5] (fun p bg i => ∃ (k n : Nat) (g : Bool), k ≤ s.size ∧ n ≤ k + 1 ∧ p = .int .i64 n ∧ bg = .bool g ∧ i = .int .i64 k ∧ Hid (nameGo 1 true s.data.toList = nameGo n g (s.data.toList.drop k))) (fun _ _ i => s.size - (intOf i).toNat)
 case atStart => exact ⟨0, 1, true, by omega, by omega, rfl, rfl, rfl, Lib.hid rfl⟩
 case round =>
  obtain ⟨k, n, g, hk, hn, rfl, rfl, rfl, HR⟩ := hrel
  by_cases hlt : k < s.size
  ·have hb := byte_le s k hlt
   have HD := Lib.hid (drop_byte s k hlt)
   by_cases c1 : cls s[k].toNat = 1
   ·have d1 : (cls (s[k].toNat : Int) == 1) = true := beq_iff_eq.2 c1
    have C1 := Lib.hid c1
    clear c1
    go_wp2_with (go_at_call 83; refine (class_any _ _ hT).mono ?_; rintro e w' ⟨rfl, rfl⟩)
    go_round
    case rel => exact ⟨k + 1, n, false, by omega, by omega, rfl, rfl, by go_num, Lib.hid (by rw [HR.out, HD.out, nameGo_small C1.out])⟩
    case measure => simp [intOf]; omega
   have d1 : (cls (s[k].toNat : Int) == 1) = false := beq_eq_false_iff_ne.2 c1
   have C1 := Lib.hid c1
   clear c1
   cases g with
   | true =>
    go_wp2_with (go_at_call 83; refine (class_any _ _ hT).mono ?_; rintro e w' ⟨rfl, rfl⟩)
    go_ret
    exact ⟨ret_bool (by rw [HR.out, HD.out, nameGo_begin C1.out]), rfl⟩
   | false =>
    by_cases c2 : (s[k].toNat : Int) = 46
    ·have d2 : ((s[k].toNat : Int) == 46) = true := beq_iff_eq.2 c2
     have C2 := Lib.hid c2
     clear c2
     go_wp2_with (go_at_call 83; refine (class_any _ _ hT).mono ?_; rintro e w' ⟨rfl, rfl⟩)
     go_round
     case rel => exact ⟨k + 1, n + 1, true, by omega, by omega, by go_num, rfl, by go_num, Lib.hid (by rw [HR.out, HD.out, nameGo_point C1.out C2.out])⟩
     case measure => simp [intOf]; omega
    have d2 : ((s[k].toNat : Int) == 46) = false := beq_eq_false_iff_ne.2 c2
    have C2 := Lib.hid c2
    clear c2
    by_cases c3 : cls s[k].toNat = 3
    ·have d3 : (cls (s[k].toNat : Int) == 3) = true := beq_iff_eq.2 c3
     have d4 : (cls (s[k].toNat : Int) != 3) = false := by rw [bne, d3]; rfl
     have C3 := Lib.hid c3
     clear c3
     go_wp2_with (go_at_call 83; refine (class_any _ _ hT).mono ?_; rintro e w' ⟨rfl, rfl⟩)
     go_round
     case rel => exact ⟨k + 1, n, false, by omega, by omega, rfl, rfl, by go_num, Lib.hid (by rw [HR.out, HD.out, nameGo_digit C1.out C2.out C3.out])⟩
     case measure => simp [intOf]; omega
    ·have d3 : (cls (s[k].toNat : Int) == 3) = false := beq_eq_false_iff_ne.2 c3
     have d4 : (cls (s[k].toNat : Int) != 3) = true := by rw [bne, d3]; rfl
     have C3 := Lib.hid c3
     clear c3
     go_wp2_with (go_at_call 83; refine (class_any _ _ hT).mono ?_; rintro e w' ⟨rfl, rfl⟩)
     go_ret
     exact ⟨ret_bool (by rw [HR.out, HD.out, nameGo_no C1.out C2.out C3.out]), rfl⟩
  ·have HE : Hid (nameGo n g (s.data.toList.drop k) = (!g && decide (n ≤ 3))) := Lib.hid (by rw [List.drop_eq_nil_of_le (by simp; omega)]; rfl)
   cases g with
   | true =>
    go_wp2
    go_ret
    exact ⟨ret_bool (by rw [HR.out, HE.out]; rfl), rfl⟩
   | false =>
    by_cases h3 : n ≤ 3
    ·go_wp2
     go_ret
     exact ⟨ret_bool (by rw [HR.out, HE.out]; simp [h3]; omega), rfl⟩
    ·go_wp2
     go_ret
     exact ⟨ret_bool (by rw [HR.out, HE.out]; simp [h3]; omega), rfl⟩

theorem inWordB_yes {b : Int} (h : inWordB b = true) : cls b = 1 ∨ cls b = 3 ∨ b = 45 ∨ b = 95 ∨ b = 46 := by simpa [inWordB] using h
theorem inWordB_no {b : Int} (h : inWordB b = false) : ¬ cls b = 1 ∧ ¬ cls b = 3 ∧ ¬ b = 45 ∧ ¬ b = 95 ∧ ¬ b = 46 := by simpa [inWordB] using h
theorem ne_true {a b : Int} (h : ¬ a = b) : (a != b) = true := by simpa using h
theorem ne_false {a b : Int} (h : a = b) : (a != b) = false := by simpa using h

set_option maxHeartbeats 800000 in
theorem refIsWord_any (s : ByteArray) (w : World) (hs : s.size ≤ maxLen) :
  Calls Tryz.prog 103 #[.string s] w fun e w' => e = .returned (.bool (wordB s.data.toList)) ∧ w = w' := by
 unfold maxLen at hs
 go_enter Tryz.func103, Tryz.ntmps103
 go_wp2
 go_loop [3] (fun i => ∃ k : Nat, k ≤ s.size ∧ i = .int .i64 k ∧ Hid (allWord s.data.toList = allWord (s.data.toList.drop k))) (fun i => s.size - (intOf i).toNat)
 case atStart => exact ⟨0, by omega, rfl, Lib.hid rfl⟩
 case round =>
  obtain ⟨k, hk, rfl, HR⟩ := hrel
  by_cases hlt : k < s.size
  ·have hb := byte_le s k hlt
   have HD := Lib.hid (drop_byte s k hlt)
   by_cases hc : inWordB s[k].toNat = true
   ·have HC := Lib.hid hc
    have hy := inWordB_yes hc
    clear hc
    by_cases q1 : cls s[k].toNat = 1
    ·have g1 := ne_false q1
     clear hy q1
     go_wp2_with (go_at_call 135; refine (refClass_any _ _).mono ?_; rintro e w' ⟨rfl, rfl⟩)
     go_round
     case rel => exact ⟨k + 1, by omega, by go_num, Lib.hid (by rw [HR.out, HD.out, allWord_cons, HC.out]; rfl)⟩
     case measure => simp [intOf]; omega
    have g1 := ne_true q1
    by_cases q2 : cls s[k].toNat = 3
    ·have g2 := ne_false q2
     clear hy q1 q2
     go_wp2_with (go_at_call 135; refine (refClass_any _ _).mono ?_; rintro e w' ⟨rfl, rfl⟩)
     go_round
     case rel => exact ⟨k + 1, by omega, by go_num, Lib.hid (by rw [HR.out, HD.out, allWord_cons, HC.out]; rfl)⟩
     case measure => simp [intOf]; omega
    have g2 := ne_true q2
    by_cases q3 : (s[k].toNat : Int) = 45
    ·have g3 := ne_false q3
     clear hy q1 q2 q3
     go_wp2_with (go_at_call 135; refine (refClass_any _ _).mono ?_; rintro e w' ⟨rfl, rfl⟩)
     go_round
     case rel => exact ⟨k + 1, by omega, by go_num, Lib.hid (by rw [HR.out, HD.out, allWord_cons, HC.out]; rfl)⟩
     case measure => simp [intOf]; omega
    have g3 := ne_true q3
    by_cases q4 : (s[k].toNat : Int) = 95
    ·have g4 := ne_false q4
     clear hy q1 q2 q3 q4
     go_wp2_with (go_at_call 135; refine (refClass_any _ _).mono ?_; rintro e w' ⟨rfl, rfl⟩)
     go_round
     case rel => exact ⟨k + 1, by omega, by go_num, Lib.hid (by rw [HR.out, HD.out, allWord_cons, HC.out]; rfl)⟩
     case measure => simp [intOf]; omega
    have g4 := ne_true q4
    have g5 : ((s[k].toNat : Int) != 46) = false := ne_false (by omega)
    clear hy q1 q2 q3 q4
    go_wp2_with (go_at_call 135; refine (refClass_any _ _).mono ?_; rintro e w' ⟨rfl, rfl⟩)
    go_round
    case rel => exact ⟨k + 1, by omega, by go_num, Lib.hid (by rw [HR.out, HD.out, allWord_cons, HC.out]; rfl)⟩
    case measure => simp [intOf]; omega
   ·have hc' : inWordB s[k].toNat = false := by simpa using hc
    obtain ⟨q1, q2, q3, q4, q5⟩ := inWordB_no hc'
    have HC : Hid (wordB s.data.toList = false) := Lib.hid (by rw [wordB, HR.out, HD.out, allWord_cons, hc']; simp)
    have g1 := ne_true q1
    have g2 := ne_true q2
    have g3 := ne_true q3
    have g4 := ne_true q4
    have g5 := ne_true q5
    clear hc hc' q1 q2 q3 q4 q5
    go_wp2_with (go_at_call 135; refine (refClass_any _ _).mono ?_; rintro e w' ⟨rfl, rfl⟩)
    go_ret
    exact ⟨ret_bool HC.out, rfl⟩
  ·have HC : Hid (wordB s.data.toList = decide (1 ≤ s.size ∧ s.size ≤ 32)) := Lib.hid (by
    rw [wordB, HR.out, List.drop_eq_nil_of_le (by simp; omega)]; simp [allWord])
   by_cases h1 : 1 ≤ s.size
   ·by_cases h2 : s.size ≤ 32
    ·go_wp2
     go_ret
     exact ⟨ret_bool (by rw [HC.out]; simp [h1, h2]; omega), rfl⟩
    ·go_wp2
     go_ret
     exact ⟨ret_bool (by rw [HC.out]; simp [h2]; omega), rfl⟩
   ·go_wp2
    go_ret
    exact ⟨ret_bool (by rw [HC.out]; simp [h1]), rfl⟩
end Go.Proofs.YtlcgfdijohgnpaaGreatDoor
