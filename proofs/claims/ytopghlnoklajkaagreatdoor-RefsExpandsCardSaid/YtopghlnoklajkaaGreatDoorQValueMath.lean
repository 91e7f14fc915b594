/-
  GlyphSpec, GlyphClass, GlyphNames, GlyphNames2, GlyphNames3, ValueWord, ValueMath.
-/
import Derived.Test.YtopghlnoklajkaaGreatDoorRows
import Derived.WalkKit
import Derived.ProofKit
import Derived.OpenShut
import Derived.WalkLawsBesides
import Derived.Lib.Hide
import Derived.Lib.IndexBytes
import Derived.Lib.ItoaNum
import Derived.Lib.SplitLaws
import Derived.Lib.Join
namespace Go.Proofs.YtopghlnoklajkaaGreatDoor
open Go.ChangeShapes Go.WideShapes Go.ChangeAt Go.RowKit

def cls (b : Int) : Int :=
  if 97 ≤ b ∧ b ≤ 122 then 1 else if 65 ≤ b ∧ b ≤ 90 then 2 else if 48 ≤ b ∧ b ≤ 57 then 3
  else if b = 32 ∨ b = 9 then 4 else if b = 10 ∨ b = 13 then 6 else if 33 ≤ b ∧ b ≤ 126 then 5 else 0
theorem cls_in (b : Int) : 0 ≤ cls b ∧ cls b ≤ 6 := by unfold cls; repeat' split
                                                       all_goals omega
theorem cls_out {b : Int} (h : b < 0 ∨ 127 < b) : cls b = 0 := by
  unfold cls
  repeat' split
  all_goals omega

def Tab (w : World) : Prop :=
  (∀ i : Nat, i < 32 → w.cell? ⟨0, i, none⟩ = some (.int .u8 (cls i))) ∧
  (∀ i : Nat, i < 32 → w.cell? ⟨1, i, none⟩ = some (.int .u8 (cls (32 + i)))) ∧
  (∀ i : Nat, i < 32 → w.cell? ⟨2, i, none⟩ = some (.int .u8 (cls (64 + i)))) ∧
  (∀ i : Nat, i < 32 → w.cell? ⟨3, i, none⟩ = some (.int .u8 (cls (96 + i))))

theorem lt_of_cell {w : World} {b i : Nat} {v : Value} (h : w.cell? ⟨b, i, none⟩ = some v) : b < w.heap.size := by
  rcases Nat.lt_or_ge b w.heap.size with h1 | h1
  · exact h1
  · simp [World.cell?, Array.getElem?_eq_none h1] at h
theorem Tab.below {w w' : World} (h : Tab w) (hb : Below w.heap.size w w') : Tab w' := by
  obtain ⟨h0, h1, h2, h3⟩ := h
  refine ⟨fun i hi => ?_, fun i hi => ?_, fun i hi => ?_, fun i hi => ?_⟩
  · rw [hb.cell (lt_of_cell (h0 i hi))]; exact h0 i hi
  · rw [hb.cell (lt_of_cell (h1 i hi))]; exact h1 i hi
  · rw [hb.cell (lt_of_cell (h2 i hi))]; exact h2 i hi
  · rw [hb.cell (lt_of_cell (h3 i hi))]; exact h3 i hi
end Go.Proofs.YtopghlnoklajkaaGreatDoor

namespace Go.Proofs.YtopghlnoklajkaaGreatDoor
open Go.ChangeShapes Go.WideShapes Go.ChangeAt Go.RowKit

set_option maxHeartbeats 400000 in
theorem class_any (b : Int) (w : World) (hT : Tab w) :
  Calls Tryz.prog 93 #[.int .i64 b] w fun e w' => e = .returned (.int .i64 (cls b)) ∧ w = w' := by
 by_cases h0 : b < 0
 ·have hz := cls_out (Or.inl h0)
  rw [hz]; clear hz hT
  go_enter Tryz.func93, Tryz.ntmps93
  go_wp2
  go_ret
  exact ⟨rfl, rfl⟩
 by_cases h1 : 127 < b
 ·have hz := cls_out (Or.inr h1)
  rw [hz]; clear hz hT
  go_enter Tryz.func93, Tryz.ntmps93
  go_wp2
  go_ret
  exact ⟨rfl, rfl⟩
 obtain ⟨n, rfl⟩ := Int.eq_ofNat_of_zero_le (Int.not_lt.1 h0)
 obtain ⟨hc0, hc1⟩ := cls_in n
 by_cases h2 : n < 32
 ·have hc := hT.1 n h2
  clear hT
  go_enter Tryz.func93, Tryz.ntmps93
  go_wp2
  go_ret
  exact ⟨rfl, rfl⟩
 by_cases h3 : n < 64
 ·have hc := hT.2.1 (n - 32) (by omega)
  rw [show (32 + ((n - 32 : Nat) : Int)) = (n : Int) from by omega] at hc
  clear hT
  go_enter Tryz.func93, Tryz.ntmps93
  go_wp2
  go_ret
  exact ⟨rfl, rfl⟩
 by_cases h4 : n < 96
 ·have hc := hT.2.2.1 (n - 64) (by omega)
  rw [show (64 + ((n - 64 : Nat) : Int)) = (n : Int) from by omega] at hc
  clear hT
  go_enter Tryz.func93, Tryz.ntmps93
  go_wp2
  go_ret
  exact ⟨rfl, rfl⟩
 ·have hc := hT.2.2.2 (n - 96) (by omega)
  rw [show (96 + ((n - 96 : Nat) : Int)) = (n : Int) from by omega] at hc
  clear hT
  go_enter Tryz.func93, Tryz.ntmps93
  go_wp2
  go_ret
  exact ⟨rfl, rfl⟩

set_option maxHeartbeats 400000 in
theorem refClass_any (b : Int) (w : World) :
  Calls Tryz.prog 128 #[.int .i64 b] w fun e w' => e = .returned (.int .i64 (cls b)) ∧ w = w' := by
 by_cases h1 : 97 ≤ b ∧ b ≤ 122
 ·have hz : cls b = 1 := by unfold cls; rw [if_pos h1]
  rw [hz]; clear hz
  obtain ⟨h1, h1'⟩ := h1
  go_enter Tryz.func128, Tryz.ntmps128
  go_wp2
  go_ret
  exact ⟨rfl, rfl⟩
 by_cases h2 : 65 ≤ b ∧ b ≤ 90
 ·have hz : cls b = 2 := by unfold cls; rw [if_neg h1, if_pos h2]
  rw [hz]; clear hz h1
  obtain ⟨h2, h2'⟩ := h2
  go_enter Tryz.func128, Tryz.ntmps128
  go_wp2
  go_ret
  exact ⟨rfl, rfl⟩
 by_cases h3 : 48 ≤ b ∧ b ≤ 57
 ·have hz : cls b = 3 := by unfold cls; rw [if_neg h1, if_neg h2, if_pos h3]
  rw [hz]; clear hz h1 h2
  obtain ⟨h3, h3'⟩ := h3
  go_enter Tryz.func128, Tryz.ntmps128
  go_wp2
  go_ret
  exact ⟨rfl, rfl⟩
 by_cases h4 : b = 32
 ·subst h4
  have hz : cls 32 = 4 := by decide
  rw [hz]; clear hz h1 h2 h3
  go_enter Tryz.func128, Tryz.ntmps128
  go_wp2
  go_ret
  exact ⟨rfl, rfl⟩
 by_cases h5 : b = 9
 ·subst h5
  have hz : cls 9 = 4 := by decide
  rw [hz]; clear hz h1 h2 h3 h4
  go_enter Tryz.func128, Tryz.ntmps128
  go_wp2
  go_ret
  exact ⟨rfl, rfl⟩
 by_cases h6 : b = 10
 ·subst h6
  have hz : cls 10 = 6 := by decide
  rw [hz]; clear hz h1 h2 h3 h4 h5
  go_enter Tryz.func128, Tryz.ntmps128
  go_wp2
  go_ret
  exact ⟨rfl, rfl⟩
 by_cases h7 : b = 13
 ·subst h7
  have hz : cls 13 = 6 := by decide
  rw [hz]; clear hz h1 h2 h3 h4 h5 h6
  go_enter Tryz.func128, Tryz.ntmps128
  go_wp2
  go_ret
  exact ⟨rfl, rfl⟩
 have e32 : (b == 32) = false := beq_eq_false_iff_ne.2 h4
 have e9 : (b == 9) = false := beq_eq_false_iff_ne.2 h5
 have e10 : (b == 10) = false := beq_eq_false_iff_ne.2 h6
 have e13 : (b == 13) = false := beq_eq_false_iff_ne.2 h7
 by_cases h8 : 33 ≤ b ∧ b ≤ 126
 ·have hz : cls b = 5 := by unfold cls; rw [if_neg h1, if_neg h2, if_neg h3, if_neg (by omega), if_neg (by omega), if_pos h8]
  rw [hz]; clear hz
  obtain ⟨h8, h8'⟩ := h8
  rcases (by omega : b < 48 ∨ (57 < b ∧ b < 65) ∨ (90 < b ∧ b < 97) ∨ 122 < b) with h | ⟨h, h'⟩ | ⟨h, h'⟩ | h
  all_goals
   clear h1 h2 h3 h4 h5 h6 h7
   go_enter Tryz.func128, Tryz.ntmps128
   go_wp2
   go_ret
   exact ⟨rfl, rfl⟩
 ·have hz : cls b = 0 := by unfold cls; rw [if_neg h1, if_neg h2, if_neg h3, if_neg (by omega), if_neg (by omega), if_neg h8]
  rw [hz]; clear hz
  rcases (by omega : b < 33 ∨ 126 < b) with h | h
  all_goals
   clear h1 h2 h3 h4 h5 h6 h7 h8
   go_enter Tryz.func128, Tryz.ntmps128
   go_wp2
   go_ret
   exact ⟨rfl, rfl⟩
end Go.Proofs.YtopghlnoklajkaaGreatDoor

namespace Go.Proofs.YtopghlnoklajkaaGreatDoor
open Go.ChangeShapes Go.WideShapes Go.ChangeAt Go.RowKit

def printB (b : Int) : Bool := decide (32 ≤ b ∧ b ≤ 126)
def inWordB (b : Int) : Bool := decide (cls b = 1 ∨ cls b = 3 ∨ b = 45 ∨ b = 95 ∨ b = 46)
def allWord (l : List UInt8) : Bool := l.all fun c => inWordB c.toNat
def wordB (l : List UInt8) : Bool := decide (1 ≤ l.length ∧ l.length ≤ 32) && allWord l
def nameGo (p : Nat) (bg : Bool) : List UInt8 → Bool
 | [] => !bg && decide (p ≤ 3)
 | c :: r => if cls c.toNat = 1 then nameGo p false r else if bg = true then false else if (c.toNat : Int) = 46 then nameGo (p + 1) true r
  else if cls c.toNat = 3 then nameGo p bg r else false
def nameB (l : List UInt8) : Bool := decide (l.length ≤ 32) && nameGo 1 true l

theorem drop_byte (s : ByteArray) (k : Nat) (h : k < s.size) : s.data.toList.drop k = s[k] :: s.data.toList.drop (k + 1) := by
 rw [List.drop_eq_getElem_cons (by simpa using h)]; rfl
theorem byte_le (s : ByteArray) (k : Nat) (h : k < s.size) : (s[k].toNat : Int) ≤ 255 := by
 have := s[k].toNat_lt; omega

set_option maxHeartbeats 400000 in
theorem inWord_any (b : Int) (w : World) (hT : Tab w) (h0 : 0 ≤ b) (h1 : b ≤ 255) :
  Calls Tryz.prog 156 #[.int .u8 b] w fun e w' => e = .returned (.bool (inWordB b)) ∧ w = w' := by
 by_cases c1 : cls b = 1
 ·have hp : inWordB b = true := by simp [inWordB, c1]
  have d1 : (cls b == 1) = true := beq_iff_eq.2 c1
  rw [hp]; clear hp c1
  go_enter Tryz.func156, Tryz.ntmps156
  go_wp2_with (go_at_call 93; refine (class_any _ _ hT).mono ?_; rintro e w' ⟨rfl, rfl⟩)
  go_ret
  exact ⟨rfl, rfl⟩
 have d1 : (cls b == 1) = false := beq_eq_false_iff_ne.2 c1
 by_cases c2 : cls b = 3
 ·have hp : inWordB b = true := by simp [inWordB, c2]
  have d2 : (cls b == 3) = true := beq_iff_eq.2 c2
  rw [hp]; clear hp c1 c2
  go_enter Tryz.func156, Tryz.ntmps156
  go_wp2_with (go_at_call 93; refine (class_any _ _ hT).mono ?_; rintro e w' ⟨rfl, rfl⟩)
  go_ret
  exact ⟨rfl, rfl⟩
 have d2 : (cls b == 3) = false := beq_eq_false_iff_ne.2 c2
 have hp : inWordB b = (b == 45 || b == 95 || b == 46) := by rw [Bool.eq_iff_iff]; simp [inWordB, c1, c2, or_assoc]
 rw [hp]; clear hp c1 c2
 by_cases e1 : b = 45
 ·subst e1
  go_enter Tryz.func156, Tryz.ntmps156
  go_wp2_with (go_at_call 93; refine (class_any _ _ hT).mono ?_; rintro e w' ⟨rfl, rfl⟩)
  go_ret
  exact ⟨rfl, rfl⟩
 by_cases e2 : b = 95
 ·subst e2
  go_enter Tryz.func156, Tryz.ntmps156
  go_wp2_with (go_at_call 93; refine (class_any _ _ hT).mono ?_; rintro e w' ⟨rfl, rfl⟩)
  go_ret
  exact ⟨rfl, rfl⟩
 have f1 : (b == 45) = false := beq_eq_false_iff_ne.2 e1
 have f2 : (b == 95) = false := beq_eq_false_iff_ne.2 e2
 rw [f1, f2]
 by_cases e3 : b = 46
 ·subst e3
  go_enter Tryz.func156, Tryz.ntmps156
  go_wp2_with (go_at_call 93; refine (class_any _ _ hT).mono ?_; rintro e w' ⟨rfl, rfl⟩)
  go_ret
  exact ⟨rfl, rfl⟩
 have f3 : (b == 46) = false := beq_eq_false_iff_ne.2 e3
 rw [f3]
 clear e1 e2 e3
 go_enter Tryz.func156, Tryz.ntmps156
 go_wp2_with (go_at_call 93; refine (class_any _ _ hT).mono ?_; rintro e w' ⟨rfl, rfl⟩)
 go_ret
 exact ⟨rfl, rfl⟩

theorem wordB_long {l : List UInt8} (h : l.length = 0 ∨ 32 < l.length) : wordB l = false := by
 simp [wordB]; intros; omega
theorem allWord_cons (c : UInt8) (r : List UInt8) : allWord (c :: r) = (inWordB c.toNat && allWord r) := by simp [allWord]

set_option maxHeartbeats 400000 in
theorem isWord_any (s : ByteArray) (w : World) (hT : Tab w) (hs : s.size ≤ maxLen) :
  Calls Tryz.prog 140 #[.string s] w fun e w' => e = .returned (.bool (wordB s.data.toList)) ∧ w = w' := by
 unfold maxLen at hs
 have hl : s.data.toList.length = s.size := by simp
 by_cases h0 : s.size = 0
 ·rw [wordB_long (Or.inl (by omega))]
  have g0 : ((s.size : Int) == 0) = true := beq_iff_eq.2 (by omega)
  clear hl h0
  go_enter Tryz.func140, Tryz.ntmps140
  go_wp2
  go_ret
  exact ⟨rfl, rfl⟩
 have g0 : ((s.size : Int) == 0) = false := beq_eq_false_iff_ne.2 (by omega)
 by_cases h1 : 32 < s.size
 ·rw [wordB_long (Or.inr (by omega))]
  clear hl h0
  go_enter Tryz.func140, Tryz.ntmps140
  go_wp2
  go_ret
  exact ⟨rfl, rfl⟩
 have hw : wordB s.data.toList = allWord s.data.toList := by
  have : decide (1 ≤ s.data.toList.length ∧ s.data.toList.length ≤ 32) = true := by simp only [hl]; simp; omega
  rw [wordB, this]; rfl
 rw [hw]
 have h2 : decide (32 < (s.size : Int)) = false := by simp; omega
 clear hl h0 hw
 go_enter Tryz.func140, Tryz.ntmps140
 go_wp2
 go_loop [3] (fun i => ∃ k : Nat, k ≤ s.size ∧ i = .int .i64 k ∧ Hid (allWord s.data.toList = allWord (s.data.toList.drop k))) (fun i => s.size - (intOf i).toNat)
 case atStart => exact ⟨0, by omega, rfl, Lib.hid rfl⟩
 case round =>
  obtain ⟨k, hk, rfl, HR⟩ := hrel
  by_cases hlt : k < s.size
  ·have hb := byte_le s k hlt
   have HD := Lib.hid (drop_byte s k hlt)
   by_cases hc : inWordB s[k].toNat = true
   ·go_wp2_with (go_at_call 156; refine (inWord_any _ _ hT (by omega) (by omega)).mono ?_; rintro e w' ⟨rfl, rfl⟩)
    go_round
    case rel => exact ⟨k + 1, by omega, by go_num, Lib.hid (by rw [HR.out, HD.out, allWord_cons, hc]; rfl)⟩
    case measure => simp [intOf]; omega
   ·have hc' : inWordB s[k].toNat = false := by simpa using hc
    clear hc
    go_wp2_with (go_at_call 156; refine (inWord_any _ _ hT (by omega) (by omega)).mono ?_; rintro e w' ⟨rfl, rfl⟩)
    go_ret
    exact ⟨by rw [HR.out, HD.out, allWord_cons, hc']; rfl, rfl⟩
  ·go_wp2
   go_ret
   exact ⟨by rw [HR.out, List.drop_eq_nil_of_le (by simp; omega)]; rfl, rfl⟩
end Go.Proofs.YtopghlnoklajkaaGreatDoor

namespace Go.Proofs.YtopghlnoklajkaaGreatDoor
open Go.ChangeShapes Go.WideShapes Go.ChangeAt Go.RowKit

theorem ret_bool {a b : Bool} (h : b = a) : Ending.returned (.bool a) = .returned (.bool b) := by rw [h]
theorem nameB_long {l : List UInt8} (h : 32 < l.length) : nameB l = false := by
 simp [nameB]; intros; omega
theorem nameGo_small {p : Nat} {bg : Bool} {c : UInt8} {r : List UInt8} (h : cls c.toNat = 1) : nameGo p bg (c :: r) = nameGo p false r := by rw [nameGo, if_pos h]
theorem nameGo_begin {p : Nat} {c : UInt8} {r : List UInt8} (h : ¬ cls c.toNat = 1) : nameGo p true (c :: r) = false := by rw [nameGo, if_neg h, if_pos rfl]
theorem nameGo_point {p : Nat} {c : UInt8} {r : List UInt8} (h : ¬ cls c.toNat = 1) (h2 : (c.toNat : Int) = 46) : nameGo p false (c :: r) = nameGo (p + 1) true r := by rw [nameGo, if_neg h, if_neg (by simp), if_pos h2]
theorem nameGo_digit {p : Nat} {c : UInt8} {r : List UInt8} (h : ¬ cls c.toNat = 1) (h2 : ¬ (c.toNat : Int) = 46) (h3 : cls c.toNat = 3) : nameGo p false (c :: r) = nameGo p false r := by rw [nameGo, if_neg h, if_neg (by simp), if_neg h2, if_pos h3]
theorem nameGo_no {p : Nat} {c : UInt8} {r : List UInt8} (h : ¬ cls c.toNat = 1) (h2 : ¬ (c.toNat : Int) = 46) (h3 : ¬ cls c.toNat = 3) : nameGo p false (c :: r) = false := by rw [nameGo, if_neg h, if_neg (by simp), if_neg h2, if_neg h3]

set_option maxHeartbeats 800000 in
theorem isName_any (s : ByteArray) (w : World) (hT : Tab w) (hs : s.size ≤ maxLen) :
  Calls Tryz.prog 57 #[.string s] w fun e w' => e = .returned (.bool (nameB s.data.toList)) ∧ w = w' := by
 unfold maxLen at hs
 have hl : s.data.toList.length = s.size := by simp
 by_cases h1 : 32 < s.size
 ·rw [nameB_long (by omega)]
  clear hl
  go_enter Tryz.func57, Tryz.ntmps57
  go_wp2
  go_ret
  exact ⟨rfl, rfl⟩
 have hw : nameB s.data.toList = nameGo 1 true s.data.toList := by
  have : decide (s.data.toList.length ≤ 32) = true := by simp only [hl]; simp; omega
  rw [nameB, this]; rfl
 rw [hw]
 have h2 : decide (32 < (s.size : Int)) = false := by simp; omega
 clear hl hw
 go_enter Tryz.func57, Tryz.ntmps57
 go_wp2
 go_loop [3, 4, 5] (fun p bg i => ∃ (k n : Nat) (g : Bool), k ≤ s.size ∧ n ≤ k + 1 ∧ p = .int .i64 n ∧ bg = .bool g ∧ i = .int .i64 k ∧ Hid (nameGo 1 true s.data.toList = nameGo n g (s.data.toList.drop k))) (fun _ _ i => s.size - (intOf i).toNat)
 case atStart => exact ⟨0, 1, true, by omega, by omega, rfl, rfl, rfl, Lib.hid rfl⟩
 case round =>
  obtain ⟨k, n, g, hk, hn, rfl, rfl, rfl, HR⟩ := hrel
  by_cases hlt : k < s.size
  ·have hb := byte_le s k hlt
   have HD := Lib.hid (drop_byte s k hlt)
   by_cases c1 : cls s[k].toNat = 1
   ·have d1 : (cls (s[k].toNat : Int) == 1) = true := beq_iff_eq.2 c1
    have C1 := Lib.hid c1
    clear c1
    go_wp2_with (go_at_call 93; refine (class_any _ _ hT).mono ?_; rintro e w' ⟨rfl, rfl⟩)
    go_round
    case rel => exact ⟨k + 1, n, false, by omega, by omega, rfl, rfl, by go_num, Lib.hid (by rw [HR.out, HD.out, nameGo_small C1.out])⟩
    case measure => simp [intOf]; omega
   have d1 : (cls (s[k].toNat : Int) == 1) = false := beq_eq_false_iff_ne.2 c1
   have C1 := Lib.hid c1
   clear c1
   cases g with
   | true =>
    go_wp2_with (go_at_call 93; refine (class_any _ _ hT).mono ?_; rintro e w' ⟨rfl, rfl⟩)
    go_ret
    exact ⟨ret_bool (by rw [HR.out, HD.out, nameGo_begin C1.out]), rfl⟩
   | false =>
    by_cases c2 : (s[k].toNat : Int) = 46
    ·have d2 : ((s[k].toNat : Int) == 46) = true := beq_iff_eq.2 c2
     have C2 := Lib.hid c2
     clear c2
     go_wp2_with (go_at_call 93; refine (class_any _ _ hT).mono ?_; rintro e w' ⟨rfl, rfl⟩)
     go_round
     case rel => exact ⟨k + 1, n + 1, true, by omega, by omega, by go_num, rfl, by go_num, Lib.hid (by rw [HR.out, HD.out, nameGo_point C1.out C2.out])⟩
     case measure => simp [intOf]; omega
    have d2 : ((s[k].toNat : Int) == 46) = false := beq_eq_false_iff_ne.2 c2
    have C2 := Lib.hid c2
    clear c2
    by_cases c3 : cls s[k].toNat = 3
    ·have d3 : (cls (s[k].toNat : Int) == 3) = true := beq_iff_eq.2 c3
     have d4 : (cls (s[k].toNat : Int) != 3) = false := by rw [bne, d3]; rfl
     have C3 := Lib.hid c3
     clear c3
     go_wp2_with (go_at_call 93; refine (class_any _ _ hT).mono ?_; rintro e w' ⟨rfl, rfl⟩)
     go_round
     case rel => exact ⟨k + 1, n, false, by omega, by omega, rfl, rfl, by go_num, Lib.hid (by rw [HR.out, HD.out, nameGo_digit C1.out C2.out C3.out])⟩
     case measure => simp [intOf]; omega
    ·have d3 : (cls (s[k].toNat : Int) == 3) = false := beq_eq_false_iff_ne.2 c3
     have d4 : (cls (s[k].toNat : Int) != 3) = true := by rw [bne, d3]; rfl
     have C3 := Lib.hid c3
     clear c3
     go_wp2_with (go_at_call 93; refine (class_any _ _ hT).mono ?_; rintro e w' ⟨rfl, rfl⟩)
     go_ret
     exact ⟨ret_bool (by rw [HR.out, HD.out, nameGo_no C1.out C2.out C3.out]), rfl⟩
  ·have HE : Hid (nameGo n g (s.data.toList.drop k) = (!g && decide (n ≤ 3))) := Lib.hid (by rw [List.drop_eq_nil_of_le (by simp; omega)]; rfl)
   cases g with
   | true =>
    go_wp2
    go_ret
    exact ⟨ret_bool (by rw [HR.out, HE.out]; rfl), rfl⟩
   | false =>
    by_cases h3 : n ≤ 3
    ·go_wp2
     go_ret
     exact ⟨ret_bool (by rw [HR.out, HE.out]; simp [h3]; omega), rfl⟩
    ·go_wp2
     go_ret
     exact ⟨ret_bool (by rw [HR.out, HE.out]; simp [h3]; omega), rfl⟩

theorem inWordB_yes {b : Int} (h : inWordB b = true) : cls b = 1 ∨ cls b = 3 ∨ b = 45 ∨ b = 95 ∨ b = 46 := by simpa [inWordB] using h
theorem inWordB_no {b : Int} (h : inWordB b = false) : ¬ cls b = 1 ∧ ¬ cls b = 3 ∧ ¬ b = 45 ∧ ¬ b = 95 ∧ ¬ b = 46 := by simpa [inWordB] using h
theorem ne_true {a b : Int} (h : ¬ a = b) : (a != b) = true := by simpa using h
theorem ne_false {a b : Int} (h : a = b) : (a != b) = false := by simpa using h

set_option maxHeartbeats 800000 in
theorem refIsWord_any (s : ByteArray) (w : World) (hs : s.size ≤ maxLen) :
  Calls Tryz.prog 134 #[.string s] w fun e w' => e = .returned (.bool (wordB s.data.toList)) ∧ w = w' := by
 unfold maxLen at hs
 go_enter Tryz.func134, Tryz.ntmps134
 go_wp2
 go_loop [3] (fun i => ∃ k : Nat, k ≤ s.size ∧ i = .int .i64 k ∧ Hid (allWord s.data.toList = allWord (s.data.toList.drop k))) (fun i => s.size - (intOf i).toNat)
 case atStart => exact ⟨0, by omega, rfl, Lib.hid rfl⟩
 case round =>
  obtain ⟨k, hk, rfl, HR⟩ := hrel
  by_cases hlt : k < s.size
  ·have hb := byte_le s k hlt
   have HD := Lib.hid (drop_byte s k hlt)
   by_cases hc : inWordB s[k].toNat = true
   ·have HC := Lib.hid hc
    have hy := inWordB_yes hc
    clear hc
    by_cases q1 : cls s[k].toNat = 1
    ·have g1 := ne_false q1
     clear hy q1
     go_wp2_with (go_at_call 128; refine (refClass_any _ _).mono ?_; rintro e w' ⟨rfl, rfl⟩)
     go_round
     case rel => exact ⟨k + 1, by omega, by go_num, Lib.hid (by rw [HR.out, HD.out, allWord_cons, HC.out]; rfl)⟩
     case measure => simp [intOf]; omega
    have g1 := ne_true q1
    by_cases q2 : cls s[k].toNat = 3
    ·have g2 := ne_false q2
     clear hy q1 q2
     go_wp2_with (go_at_call 128; refine (refClass_any _ _).mono ?_; rintro e w' ⟨rfl, rfl⟩)
     go_round
     case rel => exact ⟨k + 1, by omega, by go_num, Lib.hid (by rw [HR.out, HD.out, allWord_cons, HC.out]; rfl)⟩
     case measure => simp [intOf]; omega
    have g2 := ne_true q2
    by_cases q3 : (s[k].toNat : Int) = 45
    ·have g3 := ne_false q3
     clear hy q1 q2 q3
     go_wp2_with (go_at_call 128; refine (refClass_any _ _).mono ?_; rintro e w' ⟨rfl, rfl⟩)
     go_round
     case rel => exact ⟨k + 1, by omega, by go_num, Lib.hid (by rw [HR.out, HD.out, allWord_cons, HC.out]; rfl)⟩
     case measure => simp [intOf]; omega
    have g3 := ne_true q3
    by_cases q4 : (s[k].toNat : Int) = 95
    ·have g4 := ne_false q4
     clear hy q1 q2 q3 q4
     go_wp2_with (go_at_call 128; refine (refClass_any _ _).mono ?_; rintro e w' ⟨rfl, rfl⟩)
     go_round
     case rel => exact ⟨k + 1, by omega, by go_num, Lib.hid (by rw [HR.out, HD.out, allWord_cons, HC.out]; rfl)⟩
     case measure => simp [intOf]; omega
    have g4 := ne_true q4
    have g5 : ((s[k].toNat : Int) != 46) = false := ne_false (by omega)
    clear hy q1 q2 q3 q4
    go_wp2_with (go_at_call 128; refine (refClass_any _ _).mono ?_; rintro e w' ⟨rfl, rfl⟩)
    go_round
    case rel => exact ⟨k + 1, by omega, by go_num, Lib.hid (by rw [HR.out, HD.out, allWord_cons, HC.out]; rfl)⟩
    case measure => simp [intOf]; omega
   ·have hc' : inWordB s[k].toNat = false := by simpa using hc
    obtain ⟨q1, q2, q3, q4, q5⟩ := inWordB_no hc'
    have HC : Hid (wordB s.data.toList = false) := Lib.hid (by rw [wordB, HR.out, HD.out, allWord_cons, hc']; simp)
    have g1 := ne_true q1
    have g2 := ne_true q2
    have g3 := ne_true q3
    have g4 := ne_true q4
    have g5 := ne_true q5
    clear hc hc' q1 q2 q3 q4 q5
    go_wp2_with (go_at_call 128; refine (refClass_any _ _).mono ?_; rintro e w' ⟨rfl, rfl⟩)
    go_ret
    exact ⟨ret_bool HC.out, rfl⟩
  ·have HC : Hid (wordB s.data.toList = decide (1 ≤ s.size ∧ s.size ≤ 32)) := Lib.hid (by
    rw [wordB, HR.out, List.drop_eq_nil_of_le (by simp; omega)]; simp [allWord])
   by_cases h1 : 1 ≤ s.size
   ·by_cases h2 : s.size ≤ 32
    ·go_wp2
     go_ret
     exact ⟨ret_bool (by rw [HC.out]; simp [h1, h2]; omega), rfl⟩
    ·go_wp2
     go_ret
     exact ⟨ret_bool (by rw [HC.out]; simp [h2]; omega), rfl⟩
   ·go_wp2
    go_ret
    exact ⟨ret_bool (by rw [HC.out]; simp [h1]), rfl⟩
end Go.Proofs.YtopghlnoklajkaaGreatDoor

namespace Go.Proofs.YtopghlnoklajkaaGreatDoor
open Go.ChangeShapes Go.WideShapes Go.ChangeAt Go.RowKit

def partGo (f : Bool) : List UInt8 → Bool
 | [] => true
 | c :: r => if cls c.toNat = 1 then partGo false r else if f = true then false else if cls c.toNat = 3 then partGo false r else false
def partB (l : List UInt8) : Bool := !l.isEmpty && partGo true l
def refName (n : Nat) (cur : List UInt8) : List UInt8 → Bool
 | [] => partB cur && decide (n ≤ 3)
 | c :: r => if (c.toNat : Int) = 46 then (if partB cur = true then refName (n + 1) [] r else false) else refName n (cur ++ [c]) r

theorem cls_point : cls 46 = 5 := by decide
theorem partGo_snoc (f : Bool) (l : List UInt8) (c : UInt8) :
  partGo f (l ++ [c]) = (partGo f l && (decide (cls c.toNat = 1) || (!(f && l.isEmpty) && decide (cls c.toNat = 3)))) := by
 induction l generalizing f with
 | nil =>
  simp only [List.nil_append, partGo, List.isEmpty_nil, Bool.and_true]
  by_cases h1 : cls c.toNat = 1
  ·simp [h1]
  ·cases f
   ·by_cases h3 : cls c.toNat = 3 <;> simp [h1, h3]
   ·simp [h1]
 | cons d r ih =>
  simp only [List.cons_append, partGo, ih]
  by_cases h1 : cls d.toNat = 1
  ·simp [h1]
  ·cases f
   ·by_cases h3 : cls d.toNat = 3 <;> simp [h1, h3]
   ·simp [h1]
theorem snoc_ne (l : List UInt8) (c : UInt8) : (l ++ [c]).isEmpty = false := by cases l <;> rfl
theorem refName_bad (r : List UInt8) : ∀ (n : Nat) (cur : List UInt8), partGo true cur = false → refName n cur r = false := by
 induction r with
 | nil => intro n cur h; simp [refName, partB, h]
 | cons c r ih =>
  intro n cur h
  have hp : partB cur = false := by simp [partB, h]
  rw [refName]
  split
  ·rw [hp]; simp
  ·exact ih n _ (by rw [partGo_snoc, h]; rfl)
theorem nameGo_ref (r : List UInt8) : ∀ (n : Nat) (cur : List UInt8), partGo true cur = true → nameGo n cur.isEmpty r = refName n cur r := by
 induction r with
 | nil => intro n cur h; simp [nameGo, refName, partB, h]
 | cons c r ih =>
  intro n cur h
  by_cases h1 : cls c.toNat = 1
  ·have hne : ¬ (c.toNat : Int) = 46 := by intro e; rw [e, cls_point] at h1; exact absurd h1 (by decide)
   rw [nameGo_small h1, refName, if_neg hne]
   have := ih n (cur ++ [c]) (by rw [partGo_snoc, h]; simp [h1])
   rw [← this, snoc_ne]
  ·rcases Bool.eq_false_or_eq_true cur.isEmpty with he | he
   ·rw [he, nameGo_begin h1]
    have hc : cur = [] := by simpa using he
    subst hc
    rw [refName]
    split
    ·simp [partB]
    ·rw [refName_bad]; rw [partGo_snoc]; simp [h1]
   ·rw [he]
    have hp : partB cur = true := by simp only [partB, h, he]; rfl
    by_cases h2 : (c.toNat : Int) = 46
    ·rw [nameGo_point h1 h2, refName, if_pos h2, if_pos hp, ← ih (n + 1) [] rfl]; rfl
    ·by_cases h3 : cls c.toNat = 3
     ·rw [nameGo_digit h1 h2 h3, refName, if_neg h2]
      have := ih n (cur ++ [c]) (by rw [partGo_snoc, h]; simp [h3, he])
      rw [← this, snoc_ne]
     ·rw [nameGo_no h1 h2 h3, refName, if_neg h2, refName_bad]
      rw [partGo_snoc]; simp [h1, h3]

theorem partGo_small {f : Bool} {c : UInt8} {r : List UInt8} (h : cls c.toNat = 1) : partGo f (c :: r) = partGo false r := by rw [partGo, if_pos h]
theorem partGo_first {c : UInt8} {r : List UInt8} (h : ¬ cls c.toNat = 1) : partGo true (c :: r) = false := by rw [partGo, if_neg h, if_pos rfl]
theorem partGo_digit {c : UInt8} {r : List UInt8} (h : ¬ cls c.toNat = 1) (h3 : cls c.toNat = 3) : partGo false (c :: r) = partGo false r := by rw [partGo, if_neg h, if_neg (by simp), if_pos h3]
theorem partGo_no {c : UInt8} {r : List UInt8} (h : ¬ cls c.toNat = 1) (h3 : ¬ cls c.toNat = 3) : partGo false (c :: r) = false := by rw [partGo, if_neg h, if_neg (by simp), if_neg h3]

set_option maxHeartbeats 800000 in
theorem part_any (s : ByteArray) (w : World) (hs : s.size ≤ maxLen) :
  Calls Tryz.prog 94 #[.string s] w fun e w' => e = .returned (.bool (partB s.data.toList)) ∧ w = w' := by
 unfold maxLen at hs
 go_enter Tryz.func94, Tryz.ntmps94
 go_wp2
 go_loop [3] (fun i => ∃ k : Nat, k ≤ s.size ∧ i = .int .i64 k ∧ Hid (partGo true s.data.toList = partGo (decide (k = 0)) (s.data.toList.drop k))) (fun i => s.size - (intOf i).toNat)
 case atStart => exact ⟨0, by omega, rfl, Lib.hid rfl⟩
 case round =>
  obtain ⟨k, hk, rfl, HR⟩ := hrel
  by_cases hlt : k < s.size
  ·have hb := byte_le s k hlt
   have HD := Lib.hid (drop_byte s k hlt)
   have HE : Hid (decide (k + 1 = 0) = false) := Lib.hid (by simp)
   have HN : Hid (partGo true s.data.toList = false → partB s.data.toList = false) := Lib.hid (fun h => by rw [partB, h]; simp)
   by_cases c1 : cls s[k].toNat = 1
   ·have d1 := ne_false c1
    have C1 := Lib.hid c1
    clear c1
    go_wp2_with (go_at_call 128; refine (refClass_any _ _).mono ?_; rintro e w' ⟨rfl, rfl⟩)
    go_round
    case rel => exact ⟨k + 1, by omega, by go_num, Lib.hid (by rw [HR.out, HD.out, partGo_small C1.out, HE.out])⟩
    case measure => simp [intOf]; omega
   have d1 := ne_true c1
   have C1 := Lib.hid c1
   clear c1
   by_cases hz : k = 0
   ·have hz' : ((k : Int) == 0) = true := by simp [hz]
    have HZ : Hid (decide (k = 0) = true) := Lib.hid (by simpa using hz)
    clear hz
    go_wp2_with (go_at_call 128; refine (refClass_any _ _).mono ?_; rintro e w' ⟨rfl, rfl⟩)
    go_ret
    exact ⟨ret_bool (HN.out (by rw [HR.out, HD.out, HZ.out]; exact partGo_first C1.out)), rfl⟩
   ·have hz' : ((k : Int) == 0) = false := by simp; omega
    have HZ : Hid (decide (k = 0) = false) := Lib.hid (by simpa using hz)
    clear hz
    by_cases c3 : cls s[k].toNat = 3
    ·have d3 := ne_false c3
     have C3 := Lib.hid c3
     clear c3
     go_wp2_with (go_at_call 128; refine (refClass_any _ _).mono ?_; rintro e w' ⟨rfl, rfl⟩)
     go_round
     case rel => exact ⟨k + 1, by omega, by go_num, Lib.hid (by rw [HR.out, HD.out, HZ.out, partGo_digit C1.out C3.out, HE.out])⟩
     case measure => simp [intOf]; omega
    ·have d3 := ne_true c3
     have C3 := Lib.hid c3
     clear c3
     go_wp2_with (go_at_call 128; refine (refClass_any _ _).mono ?_; rintro e w' ⟨rfl, rfl⟩)
     go_ret
     exact ⟨ret_bool (HN.out (by rw [HR.out, HD.out, HZ.out]; exact partGo_no C1.out C3.out)), rfl⟩
  ·have HE : Hid (partB s.data.toList = !s.data.toList.isEmpty) := Lib.hid (by rw [partB, HR.out, List.drop_eq_nil_of_le (by simp; omega)]; simp [partGo])
   go_wp2
   all_goals
    go_ret
    exact ⟨ret_bool (by rw [HE.out]; simp_all [Lib.toList_data]), rfl⟩

theorem nameB_ref (l : List UInt8) : nameB l = (refName 1 [] l && decide (l.length ≤ 32)) := by
 rw [nameB, ← nameGo_ref l 1 [] rfl, Bool.and_comm]; rfl
theorem refName_step {n : Nat} {cur : List UInt8} {c : UInt8} {r : List UInt8} (h : ¬ (c.toNat : Int) = 46) : refName n cur (c :: r) = refName n (cur ++ [c]) r := by rw [refName, if_neg h]
theorem refName_point {n : Nat} {cur : List UInt8} {c : UInt8} {r : List UInt8} (h : (c.toNat : Int) = 46) (hp : partB cur = true) : refName n cur (c :: r) = refName (n + 1) [] r := by rw [refName, if_pos h, if_pos hp]
theorem refName_no {n : Nat} {cur : List UInt8} {c : UInt8} {r : List UInt8} (h : (c.toNat : Int) = 46) (hp : partB cur = false) : refName n cur (c :: r) = false := by rw [refName, if_pos h, hp]; simp
theorem cut_step (s : ByteArray) (f k : Nat) (hf : f ≤ k) (hk : k < s.size) : (s.data.toList.drop f).take (k - f) ++ [s[k]] = (s.data.toList.drop f).take (k + 1 - f) := by
 rw [show k + 1 - f = (k - f) + 1 from by omega, List.take_succ_eq_append_getElem (by simp; omega)]
 congr 2
 simp only [List.getElem_drop, show f + (k - f) = k from by omega]
 rfl

set_option maxHeartbeats 800000 in
theorem refIsName_any (s : ByteArray) (w : World) (hs : s.size ≤ 4294967296) :
  Calls Tryz.prog 59 #[.string s] w fun e w' => e = .returned (.bool (nameB s.data.toList)) ∧ w = w' := by
 have HF := Lib.hid (nameB_ref s.data.toList)
 go_enter Tryz.func59, Tryz.ntmps59
 go_wp2
 go_loop [3, 4, 5] (fun p q i => ∃ (k f n : Nat), f ≤ k ∧ k ≤ s.size ∧ n ≤ k + 1 ∧ p = .int .i64 n ∧ q = .int .i64 f ∧ i = .int .i64 k ∧ Hid (refName 1 [] s.data.toList = refName n ((s.data.toList.drop f).take (k - f)) (s.data.toList.drop k))) (fun _ _ i => s.size - (intOf i).toNat)
 case atStart => exact ⟨0, 0, 1, by omega, by omega, by omega, rfl, rfl, rfl, Lib.hid rfl⟩
 case round =>
  obtain ⟨k, f, n, hf, hk, hn, rfl, rfl, rfl, HR⟩ := hrel
  by_cases hlt : k < s.size
  ·have hb := byte_le s k hlt
   have HD := Lib.hid (drop_byte s k hlt)
   by_cases c2 : (s[k].toNat : Int) = 46
   ·have d2 : ((s[k].toNat : Int) == 46) = true := beq_iff_eq.2 c2
    have C2 := Lib.hid c2
    clear c2
    have HX := Lib.hid (Lib.extract_data s f k)
    go_wp2_with fail
    refine (part_any _ _ (by simp [maxLen]; omega)).mono ?_
    rintro e w' ⟨rfl, rfl⟩
    rw [HX.out]
    rcases Bool.eq_false_or_eq_true (partB ((s.data.toList.drop f).take (k - f))) with hp | hp
    ·have HP := Lib.hid hp
     rw [hp]
     clear hp
     go_wp2
     go_round
     case rel => exact ⟨k + 1, k + 1, n + 1, by omega, by omega, by omega, by go_num, by go_num, by go_num, Lib.hid (by rw [HR.out, HD.out, refName_point C2.out HP.out]; simp)⟩
     case measure => simp [intOf]; omega
    ·have HP := Lib.hid hp
     rw [hp]
     clear hp
     go_wp2
     go_ret
     exact ⟨ret_bool (by rw [HF.out, HR.out, HD.out, refName_no C2.out HP.out]; rfl), rfl⟩
   ·have d2 : ((s[k].toNat : Int) == 46) = false := beq_eq_false_iff_ne.2 c2
    have C2 := Lib.hid c2
    clear c2
    have HC := Lib.hid (cut_step s f k hf hlt)
    go_wp2
    go_round
    case rel => exact ⟨k + 1, f, n, by omega, by omega, by omega, rfl, rfl, by go_num, Lib.hid (by rw [HR.out, HD.out, refName_step C2.out, HC.out])⟩
    case measure => simp [intOf]; omega
  ·have hk' : k = s.size := by omega
   have HX : Hid ((s.extract f s.size).data.toList = (s.data.toList.drop f).take (k - f)) := Lib.hid (by rw [Lib.extract_data, hk'])
   have HE : Hid (refName n ((s.data.toList.drop f).take (k - f)) (s.data.toList.drop k) = (partB ((s.data.toList.drop f).take (k - f)) && decide (n ≤ 3))) := Lib.hid (by
    rw [show s.data.toList.drop k = [] from List.drop_eq_nil_of_le (by simp; omega)]; rfl)
   have HL : Hid (decide (s.data.toList.length ≤ 32) = decide (s.size ≤ 32)) := Lib.hid (by simp)
   clear hk'
   go_wp2_with fail
   refine (part_any _ _ (by simp [maxLen]; omega)).mono ?_
   rintro e w' ⟨rfl, rfl⟩
   rw [HX.out]
   rcases Bool.eq_false_or_eq_true (partB ((s.data.toList.drop f).take (k - f))) with hp | hp
   ·have HP := Lib.hid hp
    rw [hp]
    clear hp
    by_cases h3 : n ≤ 3
    ·by_cases h4 : s.size ≤ 32
     ·go_wp2
      go_ret
      exact ⟨ret_bool (by rw [HF.out, HR.out, HE.out, HP.out, HL.out]; simp [h3, h4]; omega), rfl⟩
     ·go_wp2
      go_ret
      exact ⟨ret_bool (by rw [HF.out, HR.out, HE.out, HP.out, HL.out]; simp [h3, h4]; omega), rfl⟩
    ·go_wp2
     go_ret
     exact ⟨ret_bool (by rw [HF.out, HR.out, HE.out, HP.out, HL.out]; simp [h3]), rfl⟩
   ·have HP := Lib.hid hp
    rw [hp]
    clear hp
    go_wp2
    go_ret
    exact ⟨ret_bool (by rw [HF.out, HR.out, HE.out, HP.out, HL.out]; rfl), rfl⟩
end Go.Proofs.YtopghlnoklajkaaGreatDoor


namespace Go.Proofs.YtopghlnoklajkaaGreatDoor

def isD (c : UInt8) : Bool := decide (48 ≤ c.toNat ∧ c.toNat ≤ 57)
def decS (n : Nat) (c : UInt8) : Nat := n * 10 + (c.toNat - 48)
def decAcc (n : Nat) (l : List UInt8) : Nat := l.foldl decS n
theorem decAcc_nil (n : Nat) : decAcc n [] = n := by unfold decAcc; rw [List.foldl_nil]
theorem decAcc_cons (n : Nat) (c : UInt8) (r : List UInt8) : decAcc n (c :: r) = decAcc (decS n c) r := by unfold decAcc; rw [List.foldl_cons]
theorem decS_eq (n : Nat) (c : UInt8) : decS n c = n * 10 + (c.toNat - 48) := by simp only [decS]
def dec (l : List UInt8) : Nat := decAcc 0 l
def bigN : Nat := 4611686018427387905
def capN (n : Nat) : Nat := min n bigN
def numOk (l : List UInt8) : Bool := l.all isD && (match l with | [] => false | c :: r => c != 48 || r.isEmpty)

theorem decAcc_ge (n : Nat) (l : List UInt8) : n ≤ decAcc n l := by
 induction l generalizing n with
 | nil => rw [decAcc_nil]; exact Nat.le_refl _
 | cons c r ih =>
  rw [decAcc_cons]
  have := ih (decS n c)
  rw [decS_eq] at this ⊢
  omega
theorem decAcc_append (n : Nat) (a b : List UInt8) : decAcc n (a ++ b) = decAcc (decAcc n a) b := by
 unfold decAcc; rw [List.foldl_append]
theorem cap_big {n : Nat} (h : 4611686018427387905 ≤ n) : capN n = 4611686018427387905 := by unfold capN bigN; omega
theorem cap_small {n : Nat} (h : n ≤ 4611686018427387904) : capN n = n := by unfold capN bigN; omega
theorem cap_le (n : Nat) : capN n ≤ 4611686018427387905 := by unfold capN bigN; omega

/-! Units -/
def unitV (k : Int) (s : List UInt8) : Int :=
 if k = 3 then (if s = [] then 1 else if s = [107] then 1024 else if s = [109] then 1048576 else if s = [103] then 1073741824 else 0)
 else if k = 4 then (if s = [115] then 1 else if s = [109] then 60 else if s = [104] then 3600 else if s = [100] then 86400 else 0)
 else 0
def mostV (k : Int) : Int := if k = 3 then 1125899906842624 else if k = 4 then 1099511627776 else 4611686018427387904
theorem unit_bd (k : Int) (s : List UInt8) : 0 ≤ unitV k s ∧ unitV k s ≤ 1073741824 := by
 unfold unitV; repeat' split
 all_goals omega

/-! What is read -/
structure Val where
 kind : Int
 int : Int
 text : ByteArray
 words : List ByteArray
def zeroV : Val := ⟨0, 0, ⟨#[]⟩, []⟩
def negOf : List UInt8 → Bool
 | [] => false
 | c :: _ => c == 45
def unsg (s : List UInt8) : List UInt8 := if negOf s then s.drop 1 else s
def wholeV (s : List UInt8) : Int × Int :=
 if numOk (unsg s) = false ∨ (negOf s = true ∧ dec (unsg s) = 0) then (0, 40)
 else if 4611686018427387904 < dec (unsg s) then (0, 41)
 else ((if negOf s then -(dec (unsg s) : Int) else (dec (unsg s) : Int)), 0)
def spanU (k : Int) (s : List UInt8) : Int := if k = 4 ∧ s = [48] then 1 else unitV k (s.dropWhile isD)
def unitedV (k : Int) (s : List UInt8) : Int × Int :=
 if numOk (s.takeWhile isD) = false ∨ spanU k s = 0 then (0, 40)
 else if mostV k / spanU k s < dec (s.takeWhile isD) then (0, 41)
 else ((dec (s.takeWhile isD) : Int) * spanU k s, 0)
def allText (s : List UInt8) : Bool := s.all fun c => printB c.toNat
def textV (s : List UInt8) : Int := if allText s = false then 40 else if 200 < s.length then 42 else 0
def pieces : List UInt8 → List (List UInt8)
 | [] => [[]]
 | c :: r => if c = 44 then [] :: pieces r else match pieces r with
  | [] => [[c]]
  | p :: ps => (c :: p) :: ps
def allWords (l : List (List UInt8)) : Bool := l.all wordB
def wordsV (s : List UInt8) : Int :=
 if s = [] then 0 else if allWords (pieces s) = false then 40 else if 200 < s.length ∨ 16 < (pieces s).length then 42 else 0
def boolV (s : List UInt8) : Int × Int :=
 if s = [116, 114, 117, 101] ∨ s = [121, 101, 115] ∨ s = [111, 110] then (1, 0)
 else if s = [102, 97, 108, 115, 101] ∨ s = [110, 111] ∨ s = [111, 102, 102] then (0, 0) else (0, 40)
def mkB (l : List UInt8) : ByteArray := ⟨l.toArray⟩
theorem mkB_data (l : List UInt8) : (mkB l).data.toList = l := rfl
theorem mkB_self (s : ByteArray) : mkB s.data.toList = s := by unfold mkB; simp
def intOk (k : Int) (r : Int × Int) : Val × Int := if r.2 = 0 then (⟨k, r.1, ⟨#[]⟩, []⟩, 0) else (zeroV, r.2)
def wordsOf (s : List UInt8) : List ByteArray := if s = [] then [] else (pieces s).map mkB
def parseV (k : Int) (s : ByteArray) : Val × Int :=
 if k = 1 then intOk 1 (boolV s.data.toList)
 else if k = 2 then intOk 2 (wholeV s.data.toList)
 else if k = 3 ∨ k = 4 then intOk k (unitedV k s.data.toList)
 else if k = 5 then (if textV s.data.toList = 0 then (⟨5, 0, s, []⟩, 0) else (zeroV, textV s.data.toList))
 else if k = 6 then (if wordsV s.data.toList = 0 then (⟨6, 0, ⟨#[]⟩, wordsOf s.data.toList⟩, 0) else (zeroV, wordsV s.data.toList))
 else (zeroV, 1)

/-! What may be, and what is printed -/
def wl (v : List ByteArray) : List (List UInt8) := v.map (·.data.toList)
def joinW (v : List ByteArray) : List UInt8 := Lib.join (wl v) [44]
def wordsRight (v : List ByteArray) : Bool := decide (v.length ≤ 16) && allWords (wl v) && decide ((joinW v).length ≤ 200)
def rightV (v : Val) : Bool :=
 if v.kind = 1 then decide (0 ≤ v.int ∧ v.int ≤ 1) && decide (v.text.data.toList = []) && decide (v.words.length = 0)
 else if v.kind = 2 then decide (-4611686018427387904 ≤ v.int ∧ v.int ≤ 4611686018427387904) && decide (v.text.data.toList = []) && decide (v.words.length = 0)
 else if v.kind = 3 ∨ v.kind = 4 then decide (0 ≤ v.int ∧ v.int ≤ mostV v.kind) && decide (v.text.data.toList = []) && decide (v.words.length = 0)
 else if v.kind = 5 then decide (v.int = 0) && decide (textV v.text.data.toList = 0) && decide (v.words.length = 0)
 else if v.kind = 6 then decide (v.int = 0) && decide (v.text.data.toList = []) && wordsRight v.words
 else false
def unitFor (k n : Int) : Int × List UInt8 :=
 if k = 3 then (if 0 < n ∧ n % 1073741824 = 0 then (1073741824, [103]) else if 0 < n ∧ n % 1048576 = 0 then (1048576, [109]) else if 0 < n ∧ n % 1024 = 0 then (1024, [107]) else (1, []))
 else (if 0 < n ∧ n % 86400 = 0 then (86400, [100]) else if 0 < n ∧ n % 3600 = 0 then (3600, [104]) else if 0 < n ∧ n % 60 = 0 then (60, [109]) else (1, [115]))
def printV (v : Val) : List UInt8 :=
 if v.kind = 1 then (if v.int = 1 then [116, 114, 117, 101] else [102, 97, 108, 115, 101])
 else if v.kind = 2 then Lib.itoa v.int
 else if v.kind = 3 ∨ v.kind = 4 then Lib.itoa (v.int / (unitFor v.kind v.int).1) ++ (unitFor v.kind v.int).2
 else if v.kind = 5 then v.text.data.toList
 else joinW v.words
def printR (v : Val) : List UInt8 × Int := if rightV v then (printV v, 0) else ([], 1)
def withinV (v : Val) (a b : Int) : Bool :=
 rightV v && (if v.kind = 2 ∨ v.kind = 3 ∨ v.kind = 4 then decide (a ≤ v.int ∧ v.int ≤ b) else if v.kind = 6 then decide (a ≤ v.words.length ∧ (v.words.length : Int) ≤ b) else true)
end Go.Proofs.YtopghlnoklajkaaGreatDoor
