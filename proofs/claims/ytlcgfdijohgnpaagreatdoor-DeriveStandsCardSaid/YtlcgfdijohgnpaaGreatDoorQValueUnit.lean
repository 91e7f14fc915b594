/-
  ValueUnit.
-/
import Derived.Test.YtlcgfdijohgnpaaGreatDoorQValueLib
namespace Go.Proofs.YtlcgfdijohgnpaaGreatDoor
open Go.ChangeShapes Go.WideShapes Go.ChangeAt Go.RowKit

def unitCells : List Value := [.int .i64 3, .string ⟨#[]⟩, .int .i64 1, .int .i64 3, .string ⟨#[107]⟩, .int .i64 1024, .int .i64 3, .string ⟨#[109]⟩, .int .i64 1048576, .int .i64 3, .string ⟨#[103]⟩, .int .i64 1073741824, .int .i64 4, .string ⟨#[115]⟩, .int .i64 1, .int .i64 4, .string ⟨#[109]⟩, .int .i64 60, .int .i64 4, .string ⟨#[104]⟩, .int .i64 3600, .int .i64 4, .string ⟨#[100]⟩, .int .i64 86400]
def Units (w : World) : Prop := ∃ t fr, w.heap[5]? = some (.cells unitCells.toArray t fr)
theorem Units.below {w w' : World} (h : Units w) (hb : Below w.heap.size w w') : Units w' := by
 obtain ⟨t, fr, h⟩ := h
 exact ⟨t, fr, by rw [hb.block _ (Array.getElem?_eq_some_iff.1 h).1, h]⟩
theorem unitSize : (Tryz.prog.info? 180).map (·.size) = some 24 := by kernel_rfl

theorem toList_eq (s : ByteArray) : s.toList = s.data.toList := ByteArray.toList_eq s
theorem toList_inj {a b : ByteArray} (h : a.toList = b.toList) : a = b := by
 rw [toList_eq, toList_eq] at h
 rw [← mkB_self a, ← mkB_self b, h]
def unitRows : List (Int × ByteArray × Int) := [(3, ⟨#[]⟩, 1), (3, ⟨#[107]⟩, 1024), (3, ⟨#[109]⟩, 1048576), (3, ⟨#[103]⟩, 1073741824), (4, ⟨#[115]⟩, 1), (4, ⟨#[109]⟩, 60), (4, ⟨#[104]⟩, 3600), (4, ⟨#[100]⟩, 86400)]
def unitIn (k : Int) (s : ByteArray) : List (Int × ByteArray × Int) → Int
 | [] => 0
 | x :: r => if x.1 = k ∧ x.2.1 = s then x.2.2 else unitIn k s r
theorem bytes_eq (s : ByteArray) (l : List UInt8) : (⟨l.toArray⟩ : ByteArray) = s ↔ s.data.toList = l := by
 constructor
 ·rintro rfl; rfl
 ·intro h; rw [← h]
theorem unitIn_all (k : Int) (s : ByteArray) : unitIn k s unitRows = unitV k s.data.toList := by
 simp only [unitIn, unitRows, unitV, bytes_eq s]
 by_cases h3 : k = 3
 ·subst h3; simp
 ·by_cases h4 : k = 4
  ·subst h4; simp
  ·simp [Ne.symm h3, Ne.symm h4, h3, h4]
theorem unit_row (j : Nat) (hj : j < 8) : ∃ (a : Int) (n : ByteArray) (v : Int), (∀ w, (Instr.index 180 (.agg unitCells.toArray) (.int .i64 j)).run Tryz.prog w = .ok (.agg #[.int .i64 a, .string n, .int .i64 v]) w) ∧
  unitRows.drop j = (a, n, v) :: unitRows.drop (j + 1) ∧ 1 ≤ v ∧ v ≤ 1073741824 := by
 have hj8 : j = 0 ∨ j = 1 ∨ j = 2 ∨ j = 3 ∨ j = 4 ∨ j = 5 ∨ j = 6 ∨ j = 7 := by omega
 rcases hj8 with rfl | rfl | rfl | rfl | rfl | rfl | rfl | rfl
 all_goals exact ⟨_, _, _, fun w => by kernel_rfl, by rfl, by decide, by decide⟩

set_option maxHeartbeats 4000000 in
set_option maxRecDepth 100000 in
theorem unit_any (k : Int) (s : ByteArray) (w : World) (hU : Units w) :
  Calls Tryz.prog 129 #[.int .i64 k, .string s] w fun e w' => e = .returned (.int .i64 (unitV k s.data.toList)) ∧ Below w.heap.size w w' := by
 obtain ⟨tt, fr, hg⟩ := hU
 have hrow := unit_row
 have hall := unitIn_all k s
 obtain ⟨cs, hcs⟩ : ∃ cs, unitCells.toArray = cs := ⟨_, rfl⟩
 rw [hcs] at hg hrow
 have hsz : (Tryz.prog.info? 180).map (·.size) = some cs.size := by rw [unitSize, ← hcs]; rfl
 have HG := Lib.hid hg
 have HZ := Lib.hid hsz
 have HROW := Lib.hid hrow
 have HALL := Lib.hid hall
 clear hcs hg hsz hrow hall
 go_enter Tryz.func129, Tryz.ntmps129
 go_wp2_with (refine wpList_load_row rfl 180 _ rfl 5 rfl tt cs fr _ HG.out Tryz.underlying180 rfl HZ.out ?_)
 go_loopw [6, 8] (fun _ i wr => ∃ j : Nat, i = .int .i64 j ∧ j ≤ 8 ∧ Hid (unitV k s.data.toList = unitIn k s (unitRows.drop j)) ∧ Hid (Below w.heap.size w wr)) (fun _ i _ => (8 - intOf i).toNat)
 case atStart => exact ⟨0, rfl, by decide, Lib.hid HALL.out.symm, Lib.hid (Below.refl _ _)⟩
 case round =>
  clear HALL
  obtain ⟨j, rfl, hj, HR, HB⟩ := hrel
  by_cases hlt : j < 8
  ·obtain ⟨a, n, v, hI, hd, _, _⟩ := HROW.out j hlt
   have hB2 : Hid (∀ c, Below w.heap.size w (wr.alloc c)) := Lib.hid (fun c => HB.out.alloc HB.out.size c)
   have HD := Lib.hid hd
   clear hd
   by_cases ha : a = k
   ·have d1 : (a == k) = true := beq_iff_eq.2 ha
    by_cases hs : n = s
    ·have HE : Hid (unitV k s.data.toList = v) := Lib.hid (by rw [HR.out, HD.out, unitIn, if_pos ⟨ha, hs⟩])
     subst hs
     clear ha
     go_wp2
     go_ret
     exact ⟨ret_int HE.out.symm, hB2.out _⟩
    ·have d2 : (n.toList == s.toList) = false := beq_eq_false_iff_ne.2 fun h => hs (toList_inj h)
     go_wp2
     go_roundw
     case rel => exact ⟨j + 1, by go_num, by omega, Lib.hid (by rw [HR.out, HD.out, unitIn, if_neg (fun h => hs h.2)]), Lib.hid (hB2.out _)⟩
     case measure => simp [intOf]; omega
   ·have d1 : (a == k) = false := beq_eq_false_iff_ne.2 ha
    go_wp2
    go_roundw
    case rel => exact ⟨j + 1, by go_num, by omega, Lib.hid (by rw [HR.out, HD.out, unitIn, if_neg (fun h => ha h.1)]), Lib.hid (hB2.out _)⟩
    case measure => simp [intOf]; omega
  ·go_wp2
   go_ret
   exact ⟨ret_int (by rw [HR.out, List.drop_eq_nil_of_le (by show 8 ≤ j; omega)]; rfl), HB.out⟩

theorem bounds_any (k : Int) (w : World) :
  Calls Tryz.prog 130 #[.int .i64 k] w fun e w' => e = .returned (.tuple #[.int .i64 (if k = 2 then -4611686018427387904 else 0), .int .i64 (if k = 1 then 1 else if k = 2 ∨ k = 3 ∨ k = 4 then mostV k else 0)]) ∧ w = w' := by
 by_cases h1 : k = 1
 ·subst h1
  go_enter Tryz.func130, Tryz.ntmps130
  go_wp2
  go_ret2
  exact ⟨rfl, rfl⟩
 by_cases h2 : k = 2
 ·subst h2
  go_enter Tryz.func130, Tryz.ntmps130
  go_wp2
  go_ret2
  exact ⟨rfl, rfl⟩
 by_cases h3 : k = 3
 ·subst h3
  go_enter Tryz.func130, Tryz.ntmps130
  go_wp2
  go_ret2
  exact ⟨rfl, rfl⟩
 by_cases h4 : k = 4
 ·subst h4
  go_enter Tryz.func130, Tryz.ntmps130
  go_wp2
  go_ret2
  exact ⟨rfl, rfl⟩
 rw [if_neg h2, if_neg h1, if_neg (by omega)]
 have e1 : (k == 1) = false := beq_eq_false_iff_ne.2 h1
 have e2 : (k == 2) = false := beq_eq_false_iff_ne.2 h2
 have e3 : (k == 3) = false := beq_eq_false_iff_ne.2 h3
 have e4 : (k == 4) = false := beq_eq_false_iff_ne.2 h4
 clear h1 h2 h3 h4
 go_enter Tryz.func130, Tryz.ntmps130
 go_wp2
 go_ret2
 exact ⟨rfl, rfl⟩

theorem refMost_any (k : Int) (w : World) :
  Calls Tryz.prog 102 #[.int .i64 k] w fun e w' => e = .returned (.int .i64 (mostV k)) ∧ w = w' := by
 by_cases h3 : k = 3
 ·subst h3
  go_enter Tryz.func102, Tryz.ntmps102
  go_wp2
  go_ret
  exact ⟨rfl, rfl⟩
 by_cases h4 : k = 4
 ·subst h4
  go_enter Tryz.func102, Tryz.ntmps102
  go_wp2
  go_ret
  exact ⟨rfl, rfl⟩
 rw [mostV, if_neg h3, if_neg h4]
 have e3 : (k == 3) = false := beq_eq_false_iff_ne.2 h3
 have e4 : (k == 4) = false := beq_eq_false_iff_ne.2 h4
 clear h3 h4
 go_enter Tryz.func102, Tryz.ntmps102
 go_wp2
 go_ret
 exact ⟨rfl, rfl⟩

theorem ne_text {s : ByteArray} {l : List UInt8} (h : ¬ s.data.toList = l) : (s.toList == l) = false := by
 rw [toList_eq]; exact beq_eq_false_iff_ne.2 h
theorem eq_text {s : ByteArray} {l : List UInt8} (h : s.data.toList = l) : s = mkB l := by rw [← h, mkB_self]

set_option maxHeartbeats 800000 in
theorem refUnit_any (k : Int) (s : ByteArray) (w : World) :
  Calls Tryz.prog 101 #[.int .i64 k, .string s] w fun e w' => e = .returned (.int .i64 (unitV k s.data.toList)) ∧ w = w' := by
 by_cases h3 : k = 3
 ·subst h3
  by_cases q0 : s.data.toList = []
  ·obtain rfl := eq_text q0
   go_enter Tryz.func101, Tryz.ntmps101
   unfold mkB
   go_wp2
   go_ret
   exact ⟨rfl, rfl⟩
  by_cases q1 : s.data.toList = [107]
  ·obtain rfl := eq_text q1
   go_enter Tryz.func101, Tryz.ntmps101
   unfold mkB
   go_wp2
   go_ret
   exact ⟨rfl, rfl⟩
  by_cases q2 : s.data.toList = [109]
  ·obtain rfl := eq_text q2
   go_enter Tryz.func101, Tryz.ntmps101
   unfold mkB
   go_wp2
   go_ret
   exact ⟨rfl, rfl⟩
  by_cases q3 : s.data.toList = [103]
  ·obtain rfl := eq_text q3
   go_enter Tryz.func101, Tryz.ntmps101
   unfold mkB
   go_wp2
   go_ret
   exact ⟨rfl, rfl⟩
  rw [unitV, if_pos rfl, if_neg q0, if_neg q1, if_neg q2, if_neg q3]
  have e0 := ne_text q0
  have e1 := ne_text q1
  have e2 := ne_text q2
  have e3 := ne_text q3
  clear q0 q1 q2 q3
  go_enter Tryz.func101, Tryz.ntmps101
  go_wp2
  go_ret
  exact ⟨rfl, rfl⟩
 by_cases h4 : k = 4
 ·subst h4
  by_cases q0 : s.data.toList = [115]
  ·obtain rfl := eq_text q0
   go_enter Tryz.func101, Tryz.ntmps101
   unfold mkB
   go_wp2
   go_ret
   exact ⟨rfl, rfl⟩
  by_cases q1 : s.data.toList = [109]
  ·obtain rfl := eq_text q1
   go_enter Tryz.func101, Tryz.ntmps101
   unfold mkB
   go_wp2
   go_ret
   exact ⟨rfl, rfl⟩
  by_cases q2 : s.data.toList = [104]
  ·obtain rfl := eq_text q2
   go_enter Tryz.func101, Tryz.ntmps101
   unfold mkB
   go_wp2
   go_ret
   exact ⟨rfl, rfl⟩
  by_cases q3 : s.data.toList = [100]
  ·obtain rfl := eq_text q3
   go_enter Tryz.func101, Tryz.ntmps101
   unfold mkB
   go_wp2
   go_ret
   exact ⟨rfl, rfl⟩
  rw [unitV, if_neg (by decide), if_pos rfl, if_neg q0, if_neg q1, if_neg q2, if_neg q3]
  have e0 := ne_text q0
  have e1 := ne_text q1
  have e2 := ne_text q2
  have e3 := ne_text q3
  clear q0 q1 q2 q3
  go_enter Tryz.func101, Tryz.ntmps101
  go_wp2
  go_ret
  exact ⟨rfl, rfl⟩
 rw [unitV, if_neg h3, if_neg h4]
 have e3 : (k == 3) = false := beq_eq_false_iff_ne.2 h3
 have e4 : (k == 4) = false := beq_eq_false_iff_ne.2 h4
 clear h3 h4
 go_enter Tryz.func101, Tryz.ntmps101
 go_wp2
 go_ret
 exact ⟨rfl, rfl⟩
end Go.Proofs.YtlcgfdijohgnpaaGreatDoor
