/-
  ValueUnit, ValueNum, ValueBox, Bytes, Marks, RowOps.
-/
import Derived.Test.YtopghlnoklajkaaGreatDoorQValueLib
import Derived.Deep.RegionLaw
import Derived.Test.YtopghlnoklajkaaGreatDoorRows
import Derived.WalkKit
import Derived.ProofKit
import Derived.OpenShut
import Derived.WalkLawsBesides
import Derived.Lib.Hide
import Derived.Lib.ConvBytes
import Derived.Laws.IdiomStrings
import Derived.Laws.BytesArg
import Derived.Maps.AppendAt
import Derived.Laws.OwnMore
import Derived.Laws.Rows
import Derived.Below
import Derived.RegionTactic
import Derived.Laws.CopyOwn
import Derived.Laws.Append
import Derived.Laws.AppendOwn
namespace Go.Proofs.YtopghlnoklajkaaGreatDoor
open Go.ChangeShapes Go.WideShapes Go.ChangeAt Go.RowKit

def unitCells : List Value := [.int .i64 3, .string ⟨#[]⟩, .int .i64 1, .int .i64 3, .string ⟨#[107]⟩, .int .i64 1024, .int .i64 3, .string ⟨#[109]⟩, .int .i64 1048576, .int .i64 3, .string ⟨#[103]⟩, .int .i64 1073741824, .int .i64 4, .string ⟨#[115]⟩, .int .i64 1, .int .i64 4, .string ⟨#[109]⟩, .int .i64 60, .int .i64 4, .string ⟨#[104]⟩, .int .i64 3600, .int .i64 4, .string ⟨#[100]⟩, .int .i64 86400]
def Units (w : World) : Prop := ∃ t fr, w.heap[4]? = some (.cells unitCells.toArray t fr)
theorem Units.below {w w' : World} (h : Units w) (hb : Below w.heap.size w w') : Units w' := by
 obtain ⟨t, fr, h⟩ := h
 exact ⟨t, fr, by rw [hb.block _ (Array.getElem?_eq_some_iff.1 h).1, h]⟩
theorem unitSize : (Tryz.prog.info? 194).map (·.size) = some 24 := by kernel_rfl

theorem toList_eq (s : ByteArray) : s.toList = s.data.toList := ByteArray.toList_eq s
theorem toList_inj {a b : ByteArray} (h : a.toList = b.toList) : a = b := by
 rw [toList_eq, toList_eq] at h
 rw [← mkB_self a, ← mkB_self b, h]
def unitRows : List (Int × ByteArray × Int) := [(3, ⟨#[]⟩, 1), (3, ⟨#[107]⟩, 1024), (3, ⟨#[109]⟩, 1048576), (3, ⟨#[103]⟩, 1073741824), (4, ⟨#[115]⟩, 1), (4, ⟨#[109]⟩, 60), (4, ⟨#[104]⟩, 3600), (4, ⟨#[100]⟩, 86400)]
def unitIn (k : Int) (s : ByteArray) : List (Int × ByteArray × Int) → Int
 | [] => 0
 | x :: r => if x.1 = k ∧ x.2.1 = s then x.2.2 else unitIn k s r
theorem bytes_eq (s : ByteArray) (l : List UInt8) : (⟨l.toArray⟩ : ByteArray) = s ↔ s.data.toList = l := by
 constructor
 ·rintro rfl; rfl
 ·intro h; rw [← h]
theorem unitIn_all (k : Int) (s : ByteArray) : unitIn k s unitRows = unitV k s.data.toList := by
 simp only [unitIn, unitRows, unitV, bytes_eq s]
 by_cases h3 : k = 3
 ·subst h3; simp
 ·by_cases h4 : k = 4
  ·subst h4; simp
  ·simp [Ne.symm h3, Ne.symm h4, h3, h4]
theorem unit_row (j : Nat) (hj : j < 8) : ∃ (a : Int) (n : ByteArray) (v : Int), (∀ w, (Instr.index 194 (.agg unitCells.toArray) (.int .i64 j)).run Tryz.prog w = .ok (.agg #[.int .i64 a, .string n, .int .i64 v]) w) ∧
  unitRows.drop j = (a, n, v) :: unitRows.drop (j + 1) ∧ 1 ≤ v ∧ v ≤ 1073741824 := by
 have hj8 : j = 0 ∨ j = 1 ∨ j = 2 ∨ j = 3 ∨ j = 4 ∨ j = 5 ∨ j = 6 ∨ j = 7 := by omega
 rcases hj8 with rfl | rfl | rfl | rfl | rfl | rfl | rfl | rfl
 all_goals exact ⟨_, _, _, fun w => by kernel_rfl, by rfl, by decide, by decide⟩

set_option maxHeartbeats 4000000 in
set_option maxRecDepth 100000 in
theorem unit_any (k : Int) (s : ByteArray) (w : World) (hU : Units w) :
  Calls Tryz.prog 146 #[.int .i64 k, .string s] w fun e w' => e = .returned (.int .i64 (unitV k s.data.toList)) ∧ Below w.heap.size w w' := by
 obtain ⟨tt, fr, hg⟩ := hU
 have hrow := unit_row
 have hall := unitIn_all k s
 obtain ⟨cs, hcs⟩ : ∃ cs, unitCells.toArray = cs := ⟨_, rfl⟩
 rw [hcs] at hg hrow
 have hsz : (Tryz.prog.info? 194).map (·.size) = some cs.size := by rw [unitSize, ← hcs]; rfl
 have HG := Lib.hid hg
 have HZ := Lib.hid hsz
 have HROW := Lib.hid hrow
 have HALL := Lib.hid hall
 clear hcs hg hsz hrow hall
 go_enter Tryz.func146, Tryz.ntmps146
 go_wp2_with (refine wpList_load_row rfl 194 _ rfl 4 rfl tt cs fr _ HG.out Tryz.underlying194 rfl HZ.out ?_)
 go_loopw [6, 8] (fun _ i wr => ∃ j : Nat, i = .int .i64 j ∧ j ≤ 8 ∧ Hid (unitV k s.data.toList = unitIn k s (unitRows.drop j)) ∧ Hid (Below w.heap.size w wr)) (fun _ i _ => (8 - intOf i).toNat)
 case atStart => exact ⟨0, rfl, by decide, Lib.hid HALL.out.symm, Lib.hid (Below.refl _ _)⟩
 case round =>
  clear HALL
  obtain ⟨j, rfl, hj, HR, HB⟩ := hrel
  by_cases hlt : j < 8
  ·obtain ⟨a, n, v, hI, hd, _, _⟩ := HROW.out j hlt
   have hB2 : Hid (∀ c, Below w.heap.size w (wr.alloc c)) := Lib.hid (fun c => HB.out.alloc HB.out.size c)
   have HD := Lib.hid hd
   clear hd
   by_cases ha : a = k
   ·have d1 : (a == k) = true := beq_iff_eq.2 ha
    by_cases hs : n = s
    ·have HE : Hid (unitV k s.data.toList = v) := Lib.hid (by rw [HR.out, HD.out, unitIn, if_pos ⟨ha, hs⟩])
     subst hs
     clear ha
     go_wp2
     go_ret
     exact ⟨ret_int HE.out.symm, hB2.out _⟩
    ·have d2 : (n.toList == s.toList) = false := beq_eq_false_iff_ne.2 fun h => hs (toList_inj h)
     go_wp2
     go_roundw
     case rel => exact ⟨j + 1, by go_num, by omega, Lib.hid (by rw [HR.out, HD.out, unitIn, if_neg (fun h => hs h.2)]), Lib.hid (hB2.out _)⟩
     case measure => simp [intOf]; omega
   ·have d1 : (a == k) = false := beq_eq_false_iff_ne.2 ha
    go_wp2
    go_roundw
    case rel => exact ⟨j + 1, by go_num, by omega, Lib.hid (by rw [HR.out, HD.out, unitIn, if_neg (fun h => ha h.1)]), Lib.hid (hB2.out _)⟩
    case measure => simp [intOf]; omega
  ·go_wp2
   go_ret
   exact ⟨ret_int (by rw [HR.out, List.drop_eq_nil_of_le (by show 8 ≤ j; omega)]; rfl), HB.out⟩

theorem bounds_any (k : Int) (w : World) :
  Calls Tryz.prog 112 #[.int .i64 k] w fun e w' => e = .returned (.tuple #[.int .i64 (if k = 2 then -4611686018427387904 else 0), .int .i64 (if k = 1 then 1 else if k = 2 ∨ k = 3 ∨ k = 4 then mostV k else 0)]) ∧ w = w' := by
 by_cases h1 : k = 1
 ·subst h1
  go_enter Tryz.func112, Tryz.ntmps112
  go_wp2
  go_ret2
  exact ⟨rfl, rfl⟩
 by_cases h2 : k = 2
 ·subst h2
  go_enter Tryz.func112, Tryz.ntmps112
  go_wp2
  go_ret2
  exact ⟨rfl, rfl⟩
 by_cases h3 : k = 3
 ·subst h3
  go_enter Tryz.func112, Tryz.ntmps112
  go_wp2
  go_ret2
  exact ⟨rfl, rfl⟩
 by_cases h4 : k = 4
 ·subst h4
  go_enter Tryz.func112, Tryz.ntmps112
  go_wp2
  go_ret2
  exact ⟨rfl, rfl⟩
 rw [if_neg h2, if_neg h1, if_neg (by omega)]
 have e1 : (k == 1) = false := beq_eq_false_iff_ne.2 h1
 have e2 : (k == 2) = false := beq_eq_false_iff_ne.2 h2
 have e3 : (k == 3) = false := beq_eq_false_iff_ne.2 h3
 have e4 : (k == 4) = false := beq_eq_false_iff_ne.2 h4
 clear h1 h2 h3 h4
 go_enter Tryz.func112, Tryz.ntmps112
 go_wp2
 go_ret2
 exact ⟨rfl, rfl⟩

theorem refMost_any (k : Int) (w : World) :
  Calls Tryz.prog 133 #[.int .i64 k] w fun e w' => e = .returned (.int .i64 (mostV k)) ∧ w = w' := by
 by_cases h3 : k = 3
 ·subst h3
  go_enter Tryz.func133, Tryz.ntmps133
  go_wp2
  go_ret
  exact ⟨rfl, rfl⟩
 by_cases h4 : k = 4
 ·subst h4
  go_enter Tryz.func133, Tryz.ntmps133
  go_wp2
  go_ret
  exact ⟨rfl, rfl⟩
 rw [mostV, if_neg h3, if_neg h4]
 have e3 : (k == 3) = false := beq_eq_false_iff_ne.2 h3
 have e4 : (k == 4) = false := beq_eq_false_iff_ne.2 h4
 clear h3 h4
 go_enter Tryz.func133, Tryz.ntmps133
 go_wp2
 go_ret
 exact ⟨rfl, rfl⟩

theorem ne_text {s : ByteArray} {l : List UInt8} (h : ¬ s.data.toList = l) : (s.toList == l) = false := by
 rw [toList_eq]; exact beq_eq_false_iff_ne.2 h
theorem eq_text {s : ByteArray} {l : List UInt8} (h : s.data.toList = l) : s = mkB l := by rw [← h, mkB_self]

set_option maxHeartbeats 800000 in
theorem refUnit_any (k : Int) (s : ByteArray) (w : World) :
  Calls Tryz.prog 132 #[.int .i64 k, .string s] w fun e w' => e = .returned (.int .i64 (unitV k s.data.toList)) ∧ w = w' := by
 by_cases h3 : k = 3
 ·subst h3
  by_cases q0 : s.data.toList = []
  ·obtain rfl := eq_text q0
   go_enter Tryz.func132, Tryz.ntmps132
   unfold mkB
   go_wp2
   go_ret
   exact ⟨rfl, rfl⟩
  by_cases q1 : s.data.toList = [107]
  ·obtain rfl := eq_text q1
   go_enter Tryz.func132, Tryz.ntmps132
   unfold mkB
   go_wp2
   go_ret
   exact ⟨rfl, rfl⟩
  by_cases q2 : s.data.toList = [109]
  ·obtain rfl := eq_text q2
   go_enter Tryz.func132, Tryz.ntmps132
   unfold mkB
   go_wp2
   go_ret
   exact ⟨rfl, rfl⟩
  by_cases q3 : s.data.toList = [103]
  ·obtain rfl := eq_text q3
   go_enter Tryz.func132, Tryz.ntmps132
   unfold mkB
   go_wp2
   go_ret
   exact ⟨rfl, rfl⟩
  rw [unitV, if_pos rfl, if_neg q0, if_neg q1, if_neg q2, if_neg q3]
  have e0 := ne_text q0
  have e1 := ne_text q1
  have e2 := ne_text q2
  have e3 := ne_text q3
  clear q0 q1 q2 q3
  go_enter Tryz.func132, Tryz.ntmps132
  go_wp2
  go_ret
  exact ⟨rfl, rfl⟩
 by_cases h4 : k = 4
 ·subst h4
  by_cases q0 : s.data.toList = [115]
  ·obtain rfl := eq_text q0
   go_enter Tryz.func132, Tryz.ntmps132
   unfold mkB
   go_wp2
   go_ret
   exact ⟨rfl, rfl⟩
  by_cases q1 : s.data.toList = [109]
  ·obtain rfl := eq_text q1
   go_enter Tryz.func132, Tryz.ntmps132
   unfold mkB
   go_wp2
   go_ret
   exact ⟨rfl, rfl⟩
  by_cases q2 : s.data.toList = [104]
  ·obtain rfl := eq_text q2
   go_enter Tryz.func132, Tryz.ntmps132
   unfold mkB
   go_wp2
   go_ret
   exact ⟨rfl, rfl⟩
  by_cases q3 : s.data.toList = [100]
  ·obtain rfl := eq_text q3
   go_enter Tryz.func132, Tryz.ntmps132
   unfold mkB
   go_wp2
   go_ret
   exact ⟨rfl, rfl⟩
  rw [unitV, if_neg (by decide), if_pos rfl, if_neg q0, if_neg q1, if_neg q2, if_neg q3]
  have e0 := ne_text q0
  have e1 := ne_text q1
  have e2 := ne_text q2
  have e3 := ne_text q3
  clear q0 q1 q2 q3
  go_enter Tryz.func132, Tryz.ntmps132
  go_wp2
  go_ret
  exact ⟨rfl, rfl⟩
 rw [unitV, if_neg h3, if_neg h4]
 have e3 : (k == 3) = false := beq_eq_false_iff_ne.2 h3
 have e4 : (k == 4) = false := beq_eq_false_iff_ne.2 h4
 clear h3 h4
 go_enter Tryz.func132, Tryz.ntmps132
 go_wp2
 go_ret
 exact ⟨rfl, rfl⟩
end Go.Proofs.YtopghlnoklajkaaGreatDoor

namespace Go.Proofs.YtopghlnoklajkaaGreatDoor
open Go.ChangeShapes Go.WideShapes Go.ChangeAt Go.RowKit

theorem numOkS_lead48 {s : ByteArray} (h0 : 0 < s.size) (h : numOkS s.data.toList = true) (h1 : 1 < nDig s.data.toList) : ¬ s[0].toNat = 48 := fun h48 => by
 rw [numOkS_lead h0 h1 h48] at h; cases h
theorem numOkS_pos {l : List UInt8} (h : numOkS l = true) : 0 < nDig l := by
 rcases Nat.eq_zero_or_pos (nDig l) with h0 | h0
 ·rw [numOkS_zero h0] at h; cases h
 ·exact h0

set_option maxHeartbeats 1600000 in
set_option maxRecDepth 100000 in
theorem number_yes (s r : ByteArray) (w : World) (hT : Tab w) (hs : s.size ≤ maxLen) (h : numOkS s.data.toList = true) (hr : r = mkB (s.data.toList.dropWhile isD)) :
  Calls Tryz.prog 145 #[.string s] w fun e w' => e = .returned (.tuple #[.int .i64 (capN (dec (s.data.toList.takeWhile isD))), .string r, .bool true]) ∧ Below w.heap.size w w' := by
 have hs' := hs
 unfold maxLen at hs'
 have hle := nDig_le s.data.toList
 have hsz : s.data.toList.length = s.size := by simp
 have hp := numOkS_pos h
 have hpos : 0 < s.size := by omega
 have h48 := numOkS_lead48 hpos h
 have htk := nDig_take s.data.toList
 have hdp := nDig_drop s.data.toList
 have hall := takeWhile_all s.data.toList
 rw [← htk]
 rw [← htk] at hall
 rw [← hdp] at hr
 obtain ⟨n, hn⟩ : ∃ n, nDig s.data.toList = n := ⟨_, rfl⟩
 have HN := Lib.hid hn
 rw [hn] at hle hp h48 hall hr ⊢
 rw [hsz] at hle
 have hx : (s.extract 0 n).data.toList = s.data.toList.take n := Lib.extract_from_zero s n
 have hy : s.extract n s.size = r := by rw [hr, ← Lib.extract_to_end, mkB_self]
 have HX := Lib.hid hx
 have HY := Lib.hid hy
 have hALL : Hid ((s.extract 0 n).data.toList.all isD = true) := Lib.hid (by rw [hx]; exact hall)
 have hSZ : Hid ((s.extract 0 n).size ≤ maxLen) := Lib.hid (by unfold maxLen; rw [ByteArray.size_extract]; omega)
 have d2 : ((n : Int) == 0) = false := beq_eq_false_iff_ne.2 (by omega)
 have q1 : (0 : Int) ≤ n := by omega
 have q2 : (n : Int) ≤ s.size := by omega
 rw [← HX.out]
 clear hx hy hr hall htk hdp hn h hsz hs
 by_cases h1 : 1 < n
 ·have d3 : decide (1 < (n : Int)) = true := decide_eq_true (by omega)
  have d4 : ((s[0].toNat : Int) == 48) = false := beq_eq_false_iff_ne.2 (fun e => h48 h1 (by omega))
  clear h48 h1
  go_enter Tryz.func145, Tryz.ntmps145
  go_wp2_with fail
  refine (digits_any _ _ hT (by unfold maxLen; exact hs')).mono ?_
  rintro e w1 ⟨rfl, hb⟩
  rw [HN.out]
  go_wp2
  first
   | (go_region_law ((go_simp; (with_reducible refine (said_any _ _ hALL.out hSZ.out).mono ?_); rintro e w2 ⟨rfl, hb2⟩; dsimp only)))
   | fail
  all_goals
   go_wp2
   rw [HY.out]
   exact bodyPost_ret (v := .tuple #[.int .i64 (capN (dec (s.extract 0 n).data.toList)), .string r, .bool true]) (by simp [results, Tryz.results145, go_sem]) rfl ⟨rfl, hb.trans (((below_drewN w1 1).trans hb2).mono hb.size)⟩
 ·have d3 : decide (1 < (n : Int)) = false := decide_eq_false (by omega)
  clear h48 h1
  go_enter Tryz.func145, Tryz.ntmps145
  go_wp2_with fail
  refine (digits_any _ _ hT (by unfold maxLen; exact hs')).mono ?_
  rintro e w1 ⟨rfl, hb⟩
  rw [HN.out]
  go_wp2
  first
   | (go_region_law ((go_simp; (with_reducible refine (said_any _ _ hALL.out hSZ.out).mono ?_); rintro e w2 ⟨rfl, hb2⟩; dsimp only)))
   | fail
  all_goals
   go_wp2
   rw [HY.out]
   exact bodyPost_ret (v := .tuple #[.int .i64 (capN (dec (s.extract 0 n).data.toList)), .string r, .bool true]) (by simp [results, Tryz.results145, go_sem]) rfl ⟨rfl, hb.trans (((below_drewN w1 1).trans hb2).mono hb.size)⟩

def numR (p : Val × Int) : Value := .tuple #[.agg #[.int .i64 p.1.kind, .int .i64 p.1.int, .string p.1.text, .slice none 0 0], .int .i64 p.2]
end Go.Proofs.YtopghlnoklajkaaGreatDoor

namespace Go.Proofs.YtopghlnoklajkaaGreatDoor
open Go.ChangeShapes Go.WideShapes Go.ChangeAt Go.RowKit

theorem ret_val {a b : Value} (h : a = b) : Ending.returned a = .returned b := by rw [h]
structure Box4 (w : World) (R : Nat) (a b c d : Value) : Prop where
 c0 : w.cell? ⟨R, 0, none⟩ = some a
 c1 : w.cell? ⟨R, 1, none⟩ = some b
 c2 : w.cell? ⟨R, 2, none⟩ = some c
 c3 : w.cell? ⟨R, 3, none⟩ = some d
 z0 : w.frozen? ⟨R, 0, none⟩ = false
 z1 : w.frozen? ⟨R, 1, none⟩ = false
 z2 : w.frozen? ⟨R, 2, none⟩ = false
 z3 : w.frozen? ⟨R, 3, none⟩ = false
variable {w w' : World} {R : Nat} {a b c d : Value}
theorem Box4.lt (h : Box4 w R a b c d) : R < w.heap.size := lt_of_cell h.c0
theorem Box4.below (h : Box4 w R a b c d) (hb : Below w.heap.size w w') : Box4 w' R a b c d := by
 have hl := h.lt
 obtain ⟨h0, h1, h2, h3, z0, z1, z2, z3⟩ := h
 exact ⟨by rw [hb.cell hl]; exact h0, by rw [hb.cell hl]; exact h1, by rw [hb.cell hl]; exact h2, by rw [hb.cell hl]; exact h3, by rw [hb.frozen hl]; exact z0, by rw [hb.frozen hl]; exact z1, by rw [hb.frozen hl]; exact z2, by rw [hb.frozen hl]; exact z3⟩
theorem box4_new (w : World) (a b c d : Value) (t : TypeId) : Box4 (w.alloc (.cells #[a, b, c, d] t)) w.heap.size a b c d := by
 constructor <;> simp
def set4 (w : World) (R : Nat) (x y z u : Value) : World := (((w.setCell ⟨R, 0, none⟩ x).setCell ⟨R, 1, none⟩ y).setCell ⟨R, 2, none⟩ z).setCell ⟨R, 3, none⟩ u
theorem Box4.set4 (h : Box4 w R a b c d) (x y z u : Value) : Box4 (set4 w R x y z u) R x y z u := by
 obtain ⟨h0, h1, h2, h3, z0, z1, z2, z3⟩ := h
 have a0 := World.cell?_setCell_same w ⟨R, 0, none⟩ x h0
 have a1 : (w.setCell ⟨R, 0, none⟩ x).cell? ⟨R, 1, none⟩ = some b := by rw [World.cell?_setCell_other _ _ _ _ (by simp), h1]
 have a2 : (w.setCell ⟨R, 0, none⟩ x).cell? ⟨R, 2, none⟩ = some c := by rw [World.cell?_setCell_other _ _ _ _ (by simp), h2]
 have a3 : (w.setCell ⟨R, 0, none⟩ x).cell? ⟨R, 3, none⟩ = some d := by rw [World.cell?_setCell_other _ _ _ _ (by simp), h3]
 have b1 := World.cell?_setCell_same _ ⟨R, 1, none⟩ y a1
 have b2 : ((w.setCell ⟨R, 0, none⟩ x).setCell ⟨R, 1, none⟩ y).cell? ⟨R, 2, none⟩ = some c := by rw [World.cell?_setCell_other _ _ _ _ (by simp), a2]
 have b3 : ((w.setCell ⟨R, 0, none⟩ x).setCell ⟨R, 1, none⟩ y).cell? ⟨R, 3, none⟩ = some d := by rw [World.cell?_setCell_other _ _ _ _ (by simp), a3]
 have e2 := World.cell?_setCell_same _ ⟨R, 2, none⟩ z b2
 have e3 : (((w.setCell ⟨R, 0, none⟩ x).setCell ⟨R, 1, none⟩ y).setCell ⟨R, 2, none⟩ z).cell? ⟨R, 3, none⟩ = some d := by rw [World.cell?_setCell_other _ _ _ _ (by simp), b3]
 refine ⟨?_, ?_, ?_, World.cell?_setCell_same _ ⟨R, 3, none⟩ u e3, ?_, ?_, ?_, ?_⟩
 ·unfold Go.Proofs.YtopghlnoklajkaaGreatDoor.set4; rw [World.cell?_setCell_other _ _ _ _ (by simp), World.cell?_setCell_other _ _ _ _ (by simp), World.cell?_setCell_other _ _ _ _ (by simp), a0]
 ·unfold Go.Proofs.YtopghlnoklajkaaGreatDoor.set4; rw [World.cell?_setCell_other _ _ _ _ (by simp), World.cell?_setCell_other _ _ _ _ (by simp), b1]
 ·unfold Go.Proofs.YtopghlnoklajkaaGreatDoor.set4; rw [World.cell?_setCell_other _ _ _ _ (by simp), e2]
 all_goals (unfold Go.Proofs.YtopghlnoklajkaaGreatDoor.set4; rw [World.frozen?_setCell, World.frozen?_setCell, World.frozen?_setCell, World.frozen?_setCell]; assumption)
theorem below_set4 {B : Nat} {w0 : World} (h : Below B w0 w) (hR : B ≤ R) (x y z u : Value) : Below B w0 (set4 w R x y z u) :=
 (((h.setCell (p := ⟨R, 0, none⟩) hR x).setCell (p := ⟨R, 1, none⟩) hR y).setCell (p := ⟨R, 2, none⟩) hR z).setCell (p := ⟨R, 3, none⟩) hR u
theorem Box4.last {w0 : World} (h : Box4 w R a b c d) (hb : Below w0.heap.size w0 w) (hR : w0.heap.size ≤ R) (x y z u : Value) :
  ((((w.setCell ⟨R, 0, none⟩ x).setCell ⟨R, 1, none⟩ y).setCell ⟨R, 2, none⟩ z).setCell ⟨R, 3, none⟩ u).cell? ⟨R, 0, none⟩ = some x ∧
  ((((w.setCell ⟨R, 0, none⟩ x).setCell ⟨R, 1, none⟩ y).setCell ⟨R, 2, none⟩ z).setCell ⟨R, 3, none⟩ u).cell? ⟨R, 1, none⟩ = some y ∧
  ((((w.setCell ⟨R, 0, none⟩ x).setCell ⟨R, 1, none⟩ y).setCell ⟨R, 2, none⟩ z).setCell ⟨R, 3, none⟩ u).cell? ⟨R, 2, none⟩ = some z ∧
  ((((w.setCell ⟨R, 0, none⟩ x).setCell ⟨R, 1, none⟩ y).setCell ⟨R, 2, none⟩ z).setCell ⟨R, 3, none⟩ u).cell? ⟨R, 3, none⟩ = some u ∧
  Below w0.heap.size w0 ((((w.setCell ⟨R, 0, none⟩ x).setCell ⟨R, 1, none⟩ y).setCell ⟨R, 2, none⟩ z).setCell ⟨R, 3, none⟩ u) := by
 have h4 := h.set4 x y z u
 have hb4 := below_set4 (R := R) hb hR x y z u
 unfold Go.Proofs.YtopghlnoklajkaaGreatDoor.set4 at h4 hb4
 exact ⟨h4.c0, h4.c1, h4.c2, h4.c3, hb4⟩
abbrev zero4 (w : World) (R : Nat) : Prop := Box4 w R (.int .i64 0) (.int .i64 0) (.string ⟨#[]⟩) (.slice none 0 0)
end Go.Proofs.YtopghlnoklajkaaGreatDoor

namespace Go.Proofs.YtopghlnoklajkaaGreatDoor
open Go.ChangeShapes Go.WideShapes Go.ChangeAt Go.RowKit

def b8 (c : UInt8) : Value := .int .u8 (c.toNat : Int)
def str (l : List UInt8) : Value := .string ⟨l.toArray⟩
theorem add_zero_at (g j : Nat) : (⟨g, 0, none⟩ : Addr).add j = ⟨g, j, none⟩ := by unfold Addr.add; split <;> simp_all

def Row8 (w : World) (g : Nat) (l : List UInt8) : Prop := ∀ j (hj : j < l.length), w.cell? ⟨g, j, none⟩ = some (.int .u8 (l[j].toNat : Int)) ∧ w.frozen? ⟨g, j, none⟩ = false

theorem Row8.set {w : World} {g : Nat} {l : List UInt8} (h : Row8 w g l) (k : Nat) (c : UInt8) : Row8 (w.setCell ⟨g, k, none⟩ (.int .u8 (c.toNat : Int))) g (l.set k c) := by
 intro j hj
 have hj' : j < l.length := by simpa using hj
 obtain ⟨h1, h2⟩ := h j hj'
 refine ⟨?_, by rw [World.frozen?_setCell]; exact h2⟩
 by_cases e : k = j
 ·subst e
  rw [World.cell?_setCell_same _ _ _ h1]; simp
 ·rw [World.cell?_setCell_other _ _ _ _ (by simp), h1]; simp [e]

theorem ofBytes {P : Program} (ts tb te : TypeId) (w : World) (g cap n : Nat) (l : List UInt8) (hn : n = l.length) (hs : P.underlying ts = some .string) (hb : P.underlying tb = some (.slice te)) (he : P.underlying te = some (.int .u8)) (h : Row8 w g l) :
  (convert tb ts (.slice (some ⟨g, 0, none⟩) n cap)).run P w = .ok (.string ⟨l.toArray⟩) w := by
 subst hn
 exact run_convert_bytes_back w tb ts te ⟨g, 0, none⟩ cap l hb he hs fun j hj => by rw [add_zero_at]; exact (h j hj).1

structure Own8 (w0 w : World) (v : Value) (l : List UInt8) : Prop where
 own : w.ownsRow w0.heap.size 5 1 v l.length (l.map b8)
 below : Below w0.heap.size w0 w

theorem Own8.drew {w0 w : World} {v : Value} {l : List UInt8} (h : Own8 w0 w v l) : Own8 w0 w.drew v l := ⟨h.own.drew, h.below.drew⟩
theorem Own8.nil_ (w : World) : Own8 w w (.slice none 0 0) [] := ⟨World.ownsRow_nil _ _ _ _, Below.refl _ _⟩

theorem Own8.string {w0 w : World} {v : Value} {l : List UInt8} (h : Own8 w0 w v l) {P : Program} (ts tb : TypeId) (hs : P.underlying ts = some .string) (hb : P.underlying tb = some (.slice 5)) (he : P.underlying 5 = some (.int .u8)) :
  (convert tb ts v).run P w = .ok (str l) w := by
 have ho := h.own
 rcases ho.2 with ⟨rfl, hn⟩ | ⟨g, cap, cur, rfl, _⟩
 ·have : l = [] := List.eq_nil_of_length_eq_zero hn
  subst this
  rw [run_convert_bytes_nil w tb 5 hb he 0 0 ts hs]; rfl
 ·exact ofBytes ts tb 5 w g cap l.length l rfl hs hb he fun j hj => by
   have hc := ho.cellAt j (by simpa using hj)
   exact ⟨by rw [hc]; simp [b8, hj], ho.frozenAt j⟩

theorem info8 : (Tryz.prog.info? 5).map (fun i => (i.zero, i.size, i.bytes)) = some (some (.int .u8 0), 1, 1) := by kernel_rfl

theorem Own8.alloc {w0 w : World} {v : Value} {l : List UInt8} (h : Own8 w0 w v l) (o : Obj) : Own8 w0 (w.alloc o) v l := ⟨h.own.alloc _, h.below.alloc h.below.size _⟩

theorem Own8.made {w0 w w' : World} {n : Nat} (hb : Below w0.heap.size w0 w) (h1 : w'.ownsRow w0.heap.size 5 1 (.slice (some ⟨w.heap.size, 0, none⟩) 0 n) 0 []) (h2 : w.grownBy w' Option.none) : Own8 w0 w' (.slice (some ⟨w.heap.size, 0, none⟩) 0 n) [] :=
 ⟨h1, hb.grown h2 hb.size (fun k hk => by cases hk)⟩
end Go.Proofs.YtopghlnoklajkaaGreatDoor

namespace Go.Proofs.YtopghlnoklajkaaGreatDoor
open Go.RowKit

theorem below_one (w : World) (o : Obj) : Below w.heap.size w (w.alloc o) := (Below.refl _ w).alloc (Nat.le_refl _) o
section
variable {w w' : World} {e : TypeId} {sz : Nat} {mk : Nat → List Value} {col : Nat → Nat} {i : Nat} {v : Value} {k : Nat}

theorem heap_lt {g : Nat} {o : Obj} (h : w.heap[g]? = some o) : g < w.heap.size := (Array.getElem?_eq_some_iff.1 h).1
end

end Go.Proofs.YtopghlnoklajkaaGreatDoor

namespace Go.Proofs.YtopghlnoklajkaaGreatDoor
open Go.RowKit

theorem wpList_append_eq {P : Program} {w w' : World} {ops : Array Oper} {rest : List Oper} {o : Oper} {a : Act} {Q : Exit → Act → World → Prop} (hgd : o.guard = none) (s x : Operand) (t t2 : TypeId)
  (ho : o.op = .call { callee := .builtin .append, args := #[s, x], argTypes := #[t, t2] }) (v u v' : Value) (hs : a.eval s = v) (hx : a.eval x = u)
  (hr : (Builtin.append_ #[t, t2] o.type #[v, u]).run P w = .ok v' w') (h : wpList P ops Q rest (a.put o.dst v') w') : wpList P ops Q (o :: rest) a w :=
 wpList_plain hgd fun _ hK => by
  unfold Oper.wp execOp
  simp only [ho, resolve, invoke, builtin, Sem.run_bind, Sem.run_pure, Result.andThen_ok, List.map_toArray, List.map_cons, List.map_nil, hs, hx, hr]
  exact hK _ _ h
theorem run_copy_rowN {P : Program} (w : World) (dT sT ty elem : TypeId) (g o dLen dCap : Nat) (a : Addr) (sLen sCap n : Nat) (cur : Array Value) (t : TypeId) (cs : List Value) (i : TypeInfo)
  (hu : P.underlying dT = some (.slice elem)) (hi : P.info? elem = some i)
  (hg : w.heap[g]? = some (.cells cur t (0, 0))) (hm : Nat.min sLen dLen = n) (hn : cs.length = n * i.size)
  (hsrc : ∀ j v, cs[j]? = some v → w.cell? (a.add j) = some v) (hfit : o + cs.length ≤ cur.size) (h1 : ∀ v ∈ cs, v.oneCell' = true) :
  (Builtin.copy_ #[dT, sT] ty #[.slice (some ⟨g, o, none⟩) dLen dCap, .slice (some a) sLen sCap]).run P w =
   .ok (goInt n) (w.setRow g (cur.toList.take o ++ cs ++ cur.toList.drop (o + cs.length)).toArray) := by
 subst hm
 have hl := run_loadCells_list (P := P) w a cs hsrc
 have hst := run_storeCells_at P g o t cs 0 cur w hg (by simpa using hfit) h1
 simp [Builtin.copy_, run_underlying hu, Builtin.lenOf, Builtin.firstCells, sizeOf, typeInfo, hi, ← hn, hl, hst]
end Go.Proofs.YtopghlnoklajkaaGreatDoor
