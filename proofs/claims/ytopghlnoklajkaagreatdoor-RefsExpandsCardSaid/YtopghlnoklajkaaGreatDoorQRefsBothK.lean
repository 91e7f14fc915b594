/-
  KeyStands0, KeyStands1, KeyRefForm, KeyRefAdd, TwoSets, RefsBothK.
-/
import Derived.Test.YtopghlnoklajkaaGreatDoorQSetAll2
import Derived.Test.YtopghlnoklajkaaGreatDoorQValueMath
import Derived.Test.YtopghlnoklajkaaGreatDoorQKeyAdds
import Derived.Test.YtopghlnoklajkaaGreatDoorQValueRefParse
import Derived.Test.YtopghlnoklajkaaGreatDoorQSetAll
import Derived.Test.YtopghlnoklajkaaGreatDoorQBut
import Derived.Deep.AppendLies
import Derived.Test.YtopghlnoklajkaaGreatDoorQSetPut
import Derived.Test.YtopghlnoklajkaaGreatDoorQLayPut
namespace Go.Proofs.YtopghlnoklajkaaGreatDoor
open Go.ChangeShapes Go.WideShapes Go.ChangeAt Go.RowKit

def three (m : ByteArray) : List KeyV := [⟨m, 0, ⟨#[]⟩, 0, 0, m⟩, ⟨⟨#[110, 101, 116, 46, 112, 111, 114, 116]⟩, 0, ⟨#[]⟩, 0, 0, ⟨#[112]⟩⟩, kZero]

end Go.Proofs.YtopghlnoklajkaaGreatDoor

namespace Go.Proofs.YtopghlnoklajkaaGreatDoor
open Go.ChangeShapes Go.WideShapes Go.ChangeAt Go.RowKit

set_option maxHeartbeats 1600000 in
set_option maxRecDepth 100000 in
theorem refStandard_any (w : World) : Calls Tryz.prog 29 #[] w fun e w' => e = .returned (.pointer (some ⟨w.heap.size + 1, 0, none⟩)) ∧ SetAt w' (w.heap.size + 1) (some ⟨w.heap.size, 0, none⟩) 16 stdL ∧ Below w.heap.size w w' := by
 have HE : Hid (∀ t u, SetAt ((w.alloc (Obj.cells (flat stdL).toArray t)).alloc (Obj.cells #[.slice (some ⟨w.heap.size, 0, none⟩) 16 16] u)) (w.heap.size + 1) (some ⟨w.heap.size, 0, none⟩) 16 stdL ∧ Below w.heap.size w ((w.alloc (Obj.cells (flat stdL).toArray t)).alloc (Obj.cells #[.slice (some ⟨w.heap.size, 0, none⟩) 16 16] u))) := Lib.hid fun t u => by
  have hb := below_one (w.alloc (Obj.cells (flat stdL).toArray t)) (Obj.cells #[.slice (some ⟨w.heap.size, 0, none⟩) 16 16] u)
  refine ⟨⟨?_, (keys_flat w stdL t).below hb, by decide, (fun e => by cases e), ?_⟩, (below_one w _).trans (hb.mono (below_one w _).size)⟩
  ·have hz : (w.alloc (Obj.cells (flat stdL).toArray t)).heap.size = w.heap.size + 1 := by simp
   rw [← hz, show stdL.length = 16 from rfl]
   simp
  ·have hz : (w.alloc (Obj.cells (flat stdL).toArray t)).heap.size = w.heap.size + 1 := by simp
   rw [← hz]
   simp
 go_enter Tryz.func29, Tryz.ntmps29
 go_wp2
 go_ret
 exact ⟨rfl, HE.out _ _⟩

end Go.Proofs.YtopghlnoklajkaaGreatDoor

namespace Go.Proofs.YtopghlnoklajkaaGreatDoor
open Go.ChangeShapes Go.WideShapes Go.ChangeAt Go.RowKit

def endsK (k : Int) : Int × Int := if k = 2 then (-4611686018427387904, 4611686018427387904) else if k = 3 then (0, 1125899906842624) else if k = 4 then (0, 1099511627776) else if k = 6 then (0, 16) else (0, 0)
set_option maxRecDepth 100000 in
theorem ends_any (k : Int) (w : World) : Calls Tryz.prog 101 #[.int .i64 k] w fun e w' => e = .returned (.tuple #[.int .i64 (endsK k).1, .int .i64 (endsK k).2]) ∧ w = w' := by
 by_cases h2 : k = 2
 ·subst h2
  go_enter Tryz.func101, Tryz.ntmps101
  go_wp2
  go_ret2
  exact ⟨rfl, rfl⟩
 by_cases h3 : k = 3
 ·subst h3
  go_enter Tryz.func101, Tryz.ntmps101
  go_wp2
  go_ret2
  exact ⟨rfl, rfl⟩
 by_cases h4 : k = 4
 ·subst h4
  go_enter Tryz.func101, Tryz.ntmps101
  go_wp2
  go_ret2
  exact ⟨rfl, rfl⟩
 by_cases h6 : k = 6
 ·subst h6
  go_enter Tryz.func101, Tryz.ntmps101
  go_wp2
  go_ret2
  exact ⟨rfl, rfl⟩
 have hE : endsK k = (0, 0) := by unfold endsK; rw [if_neg h2, if_neg h3, if_neg h4, if_neg h6]
 have d2 : (k == 2) = false := beq_eq_false_iff_ne.2 h2
 have d3 : (k == 3) = false := beq_eq_false_iff_ne.2 h3
 have d4 : (k == 4) = false := beq_eq_false_iff_ne.2 h4
 have d6 : (k == 6) = false := beq_eq_false_iff_ne.2 h6
 rw [hE]
 clear hE h2 h3 h4 h6
 go_enter Tryz.func101, Tryz.ntmps101
 go_wp2
 go_ret2
 exact ⟨rfl, rfl⟩
theorem right2 (n : Int) : rightV (numV 2 n) = true ↔ (-4611686018427387904 ≤ n ∧ n ≤ 4611686018427387904) := by
 unfold rightV
 rw [if_neg (by show ¬ (2 : Int) = 1; decide), if_pos (show (numV 2 n).kind = 2 from rfl)]
 exact ⟨fun h => of_decide_eq_true (Bool.and_eq_true_iff.1 (Bool.and_eq_true_iff.1 h).1).1, fun h => Bool.and_eq_true_iff.2 ⟨Bool.and_eq_true_iff.2 ⟨decide_eq_true h, rfl⟩, rfl⟩⟩
theorem right3 (n : Int) : rightV (numV 3 n) = true ↔ (0 ≤ n ∧ n ≤ 1125899906842624) := by
 unfold rightV
 rw [if_neg (by show ¬ (3 : Int) = 1; decide), if_neg (by show ¬ (3 : Int) = 2; decide), if_pos (show (numV 3 n).kind = 3 ∨ (numV 3 n).kind = 4 from .inl rfl)]
 exact ⟨fun h => of_decide_eq_true (Bool.and_eq_true_iff.1 (Bool.and_eq_true_iff.1 h).1).1, fun h => Bool.and_eq_true_iff.2 ⟨Bool.and_eq_true_iff.2 ⟨decide_eq_true h, rfl⟩, rfl⟩⟩
theorem right4 (n : Int) : rightV (numV 4 n) = true ↔ (0 ≤ n ∧ n ≤ 1099511627776) := by
 unfold rightV
 rw [if_neg (by show ¬ (4 : Int) = 1; decide), if_neg (by show ¬ (4 : Int) = 2; decide), if_pos (show (numV 4 n).kind = 3 ∨ (numV 4 n).kind = 4 from .inr rfl)]
 exact ⟨fun h => of_decide_eq_true (Bool.and_eq_true_iff.1 (Bool.and_eq_true_iff.1 h).1).1, fun h => Bool.and_eq_true_iff.2 ⟨Bool.and_eq_true_iff.2 ⟨decide_eq_true h, rfl⟩, rfl⟩⟩
theorem bounds_ends (k a b : Int) : boundsOk k a b = (decide (1 ≤ k) && (decide (k ≤ 6) && (decide (a ≤ b) && (decide ((endsK k).1 ≤ a) && decide (b ≤ (endsK k).2))))) := by
 rw [Bool.eq_iff_iff]
 by_cases h : 1 ≤ k ∧ k ≤ 6
 ·have h6 : k = 1 ∨ k = 2 ∨ k = 3 ∨ k = 4 ∨ k = 5 ∨ k = 6 := by omega
  rcases h6 with rfl | rfl | rfl | rfl | rfl | rfl
  all_goals
   simp only [boundsOk, endsK, Bool.and_eq_true, decide_eq_true_iff]
   simp [right2, right3, right4]
   try omega
 ·have : boundsOk k a b = false := by
   unfold boundsOk
   rw [if_neg (by omega), if_neg (by omega), if_neg (by omega)]
  rw [this]
  simp
  omega
theorem form_ref (k : KeyV) : formK k = (nameB k.name.data.toList && (decide (1 ≤ k.kind) && (decide (k.kind ≤ 6) && (letterOk k.letter.data.toList && (decide (k.least ≤ k.most) && (decide ((endsK k.kind).1 ≤ k.least) && decide (k.most ≤ (endsK k.kind).2))))))) := by
 unfold formK
 rw [bounds_ends]
 cases nameB k.name.data.toList <;> cases letterOk k.letter.data.toList <;> cases decide (1 ≤ k.kind) <;> cases decide (k.kind ≤ 6) <;> rfl
theorem cls_small {c : Int} : cls c = 1 ↔ 97 ≤ c ∧ c ≤ 122 := by
 constructor
 ·intro h
  unfold cls at h
  repeat' split at h
  all_goals omega
 ·intro h
  unfold cls
  rw [if_pos h]
set_option maxHeartbeats 3200000 in
set_option maxRecDepth 100000 in
theorem refForm_any (k : KeyV) (w : World) (h1 : k.name.size ≤ 4294967280) (h2 : k.letter.size ≤ 4294967280) :
  Calls Tryz.prog 67 #[kAgg k] w fun e w' => e = .returned (.bool (formK k)) ∧ Below w.heap.size w w' := by
 have hF := form_ref k
 obtain ⟨nm, kd, dl, a, b, le⟩ := k
 simp only at h1 h2 hF
 obtain ⟨r, hr⟩ : ∃ r, formK ⟨nm, kd, dl, a, b, le⟩ = r := ⟨_, rfl⟩
 rw [hr] at hF ⊢
 have HN : Hid (∀ W, Calls Tryz.prog 59 #[.string nm] W fun e w' => e = .returned (.bool (nameB nm.data.toList)) ∧ W = w') := Lib.hid fun W => refIsName_any nm W (by omega)
 have HEN : Hid (∀ W, Calls Tryz.prog 101 #[.int .i64 kd] W fun e w' => e = .returned (.tuple #[.int .i64 (endsK kd).1, .int .i64 (endsK kd).2]) ∧ W = w') := Lib.hid fun W => ends_any kd W
 obtain ⟨A, hA⟩ : ∃ A, nameB nm.data.toList = A := ⟨_, rfl⟩
 obtain ⟨lo, hlo⟩ : ∃ lo, (endsK kd).1 = lo := ⟨_, rfl⟩
 obtain ⟨hi, hhi⟩ : ∃ hi, (endsK kd).2 = hi := ⟨_, rfl⟩
 obtain ⟨LT, hLT⟩ : ∃ LT, letterOk le.data.toList = LT := ⟨_, rfl⟩
 rw [hA] at HN hF
 rw [hlo, hhi] at HEN hF
 rw [hLT] at hF
 have HF := Lib.hid hF
 unfold kAgg
 clear hr hF hA hlo hhi
 have hl : le.data.toList.length = le.size := by simp
 by_cases h0 : le = ⟨#[]⟩
 ·subst h0
  obtain rfl : true = LT := hLT
  clear hl h1 h2
  go_enter Tryz.func67, Tryz.ntmps67
  go_wp2_with fail
  refine (HN.out _).mono ?_
  rintro e w' ⟨rfl, rfl⟩
  go_wp2_with fail
  refine (HEN.out _).mono ?_
  rintro e w' ⟨rfl, rfl⟩
  cases A with
  | false =>
   have HE : Hid (r = false) := Lib.hid (by rw [HF.out, Bool.false_and])
   go_wp2
   go_ret
   exact ⟨by rw [HE.out]; first | done | rfl | simp [*], below_one w _⟩
  | true =>
   by_cases p1 : 1 ≤ kd
   rotate_left
   ·have HE : Hid (r = false) := Lib.hid (by rw [HF.out, Bool.true_and, decide_eq_false p1, Bool.false_and])
    go_wp2
    go_ret
    exact ⟨by rw [HE.out]; first | done | rfl | simp [*], below_one w _⟩
   by_cases p2 : kd ≤ 6
   rotate_left
   ·have HE : Hid (r = false) := Lib.hid (by rw [HF.out, Bool.true_and, decide_eq_true p1, Bool.true_and, decide_eq_false p2, Bool.false_and])
    go_wp2
    go_ret
    exact ⟨by rw [HE.out]; first | done | rfl | simp [*], below_one w _⟩
   by_cases p3 : a ≤ b
   rotate_left
   ·have HE : Hid (r = false) := Lib.hid (by rw [HF.out, Bool.true_and, decide_eq_true p1, Bool.true_and, decide_eq_true p2, Bool.true_and, Bool.true_and, decide_eq_false p3, Bool.false_and])
    go_wp2
    go_ret
    exact ⟨by rw [HE.out]; first | done | rfl | simp [*], below_one w _⟩
   by_cases p4 : lo ≤ a
   rotate_left
   ·have HE : Hid (r = false) := Lib.hid (by rw [HF.out, Bool.true_and, decide_eq_true p1, Bool.true_and, decide_eq_true p2, Bool.true_and, Bool.true_and, decide_eq_true p3, Bool.true_and, decide_eq_false p4, Bool.false_and])
    go_wp2
    go_ret
    exact ⟨by rw [HE.out]; first | done | rfl | simp [*], below_one w _⟩
   by_cases p5 : b ≤ hi
   rotate_left
   ·have HE : Hid (r = false) := Lib.hid (by rw [HF.out, Bool.true_and, decide_eq_true p1, Bool.true_and, decide_eq_true p2, Bool.true_and, Bool.true_and, decide_eq_true p3, Bool.true_and, decide_eq_true p4, Bool.true_and, decide_eq_false p5])
    go_wp2
    go_ret
    exact ⟨by rw [HE.out]; first | done | rfl | simp [*], below_one w _⟩
   have HE : Hid (r = true) := Lib.hid (by rw [HF.out, Bool.true_and, decide_eq_true p1, Bool.true_and, decide_eq_true p2, Bool.true_and, Bool.true_and, decide_eq_true p3, Bool.true_and, decide_eq_true p4, Bool.true_and, decide_eq_true p5])
   go_wp2
   go_ret
   exact ⟨by rw [HE.out]; first | done | rfl | simp [*], below_one w _⟩
 have d0 : le.toList.isEmpty = false := emp_false' (fun h => h0 (by rw [← mkB_self le, h]; rfl))
 by_cases hs1 : le.size = 1
 rotate_left
 ·have q1 : ((le.size : Int) == 1) = false := beq_eq_false_iff_ne.2 (by omega)
  have hz : le.size ≠ 0 := fun h => h0 (by rw [← mkB_self le, List.eq_nil_of_length_eq_zero (hl.trans h)]; rfl)
  obtain rfl : LT = false := hLT.symm.trans (letterOk_long (by omega))
  clear hLT hl h1 h2 h0 hs1 hz
  go_enter Tryz.func67, Tryz.ntmps67
  go_wp2_with fail
  refine (HN.out _).mono ?_
  rintro e w' ⟨rfl, rfl⟩
  go_wp2_with fail
  refine (HEN.out _).mono ?_
  rintro e w' ⟨rfl, rfl⟩
  cases A with
  | false =>
   have HE : Hid (r = false) := Lib.hid (by rw [HF.out, Bool.false_and])
   go_wp2
   go_ret
   exact ⟨by rw [HE.out]; first | done | rfl | simp [*], below_one w _⟩
  | true =>
   by_cases p1 : 1 ≤ kd
   rotate_left
   ·have HE : Hid (r = false) := Lib.hid (by rw [HF.out, Bool.true_and, decide_eq_false p1, Bool.false_and])
    go_wp2
    go_ret
    exact ⟨by rw [HE.out]; first | done | rfl | simp [*], below_one w _⟩
   by_cases p2 : kd ≤ 6
   rotate_left
   ·have HE : Hid (r = false) := Lib.hid (by rw [HF.out, Bool.true_and, decide_eq_true p1, Bool.true_and, decide_eq_false p2, Bool.false_and])
    go_wp2
    go_ret
    exact ⟨by rw [HE.out]; first | done | rfl | simp [*], below_one w _⟩
   have HE : Hid (r = false) := Lib.hid (by rw [HF.out, Bool.true_and, decide_eq_true p1, Bool.true_and, decide_eq_true p2, Bool.true_and, Bool.false_and])
   go_wp2
   go_ret
   exact ⟨by rw [HE.out]; first | done | rfl | simp [*], below_one w _⟩
 have hlt : 0 < le.size := by omega
 have q1 : ((le.size : Int) == 1) = true := beq_iff_eq.2 (by omega)
 have hb := byte_le le 0 hlt
 have hbe : le.data.toList = [le[0]] := by
  have := drop_byte le 0 hlt
  rw [List.drop_zero] at this
  rw [this, List.drop_eq_nil_of_le (by rw [hl]; omega)]
 have hok : LT = (decide (cls (le[0].toNat : Int) = 1) && !decide (le[0] = 104)) := by rw [← hLT, hbe]; rfl
 by_cases c1 : 97 ≤ (le[0].toNat : Int)
 rotate_left
 ·obtain rfl : LT = false := by rw [hok, decide_eq_false (fun h => c1 (cls_small.1 h).1), Bool.false_and]
  clear hLT hok hbe hl h1 h2 h0 hs1
  go_enter Tryz.func67, Tryz.ntmps67
  go_wp2_with fail
  refine (HN.out _).mono ?_
  rintro e w' ⟨rfl, rfl⟩
  go_wp2_with fail
  refine (HEN.out _).mono ?_
  rintro e w' ⟨rfl, rfl⟩
  cases A with
  | false =>
   have HE : Hid (r = false) := Lib.hid (by rw [HF.out, Bool.false_and])
   go_wp2
   go_ret
   exact ⟨by rw [HE.out]; first | done | rfl | simp [*], below_one w _⟩
  | true =>
   by_cases p1 : 1 ≤ kd
   rotate_left
   ·have HE : Hid (r = false) := Lib.hid (by rw [HF.out, Bool.true_and, decide_eq_false p1, Bool.false_and])
    go_wp2
    go_ret
    exact ⟨by rw [HE.out]; first | done | rfl | simp [*], below_one w _⟩
   by_cases p2 : kd ≤ 6
   rotate_left
   ·have HE : Hid (r = false) := Lib.hid (by rw [HF.out, Bool.true_and, decide_eq_true p1, Bool.true_and, decide_eq_false p2, Bool.false_and])
    go_wp2
    go_ret
    exact ⟨by rw [HE.out]; first | done | rfl | simp [*], below_one w _⟩
   have HE : Hid (r = false) := Lib.hid (by rw [HF.out, Bool.true_and, decide_eq_true p1, Bool.true_and, decide_eq_true p2, Bool.true_and, Bool.false_and])
   go_wp2
   go_ret
   exact ⟨by rw [HE.out]; first | done | rfl | simp [*], below_one w _⟩
 by_cases c2 : (le[0].toNat : Int) ≤ 122
 rotate_left
 ·obtain rfl : LT = false := by rw [hok, decide_eq_false (fun h => c2 (cls_small.1 h).2), Bool.false_and]
  clear hLT hok hbe hl h1 h2 h0 hs1
  go_enter Tryz.func67, Tryz.ntmps67
  go_wp2_with fail
  refine (HN.out _).mono ?_
  rintro e w' ⟨rfl, rfl⟩
  go_wp2_with fail
  refine (HEN.out _).mono ?_
  rintro e w' ⟨rfl, rfl⟩
  cases A with
  | false =>
   have HE : Hid (r = false) := Lib.hid (by rw [HF.out, Bool.false_and])
   go_wp2
   go_ret
   exact ⟨by rw [HE.out]; first | done | rfl | simp [*], below_one w _⟩
  | true =>
   by_cases p1 : 1 ≤ kd
   rotate_left
   ·have HE : Hid (r = false) := Lib.hid (by rw [HF.out, Bool.true_and, decide_eq_false p1, Bool.false_and])
    go_wp2
    go_ret
    exact ⟨by rw [HE.out]; first | done | rfl | simp [*], below_one w _⟩
   by_cases p2 : kd ≤ 6
   rotate_left
   ·have HE : Hid (r = false) := Lib.hid (by rw [HF.out, Bool.true_and, decide_eq_true p1, Bool.true_and, decide_eq_false p2, Bool.false_and])
    go_wp2
    go_ret
    exact ⟨by rw [HE.out]; first | done | rfl | simp [*], below_one w _⟩
   have HE : Hid (r = false) := Lib.hid (by rw [HF.out, Bool.true_and, decide_eq_true p1, Bool.true_and, decide_eq_true p2, Bool.true_and, Bool.false_and])
   go_wp2
   go_ret
   exact ⟨by rw [HE.out]; first | done | rfl | simp [*], below_one w _⟩
 rw [decide_eq_true (cls_small.2 ⟨c1, c2⟩), Bool.true_and] at hok
 have hE : (le.toList == [104]) = decide (le[0] = 104) := by
  rw [toList_eq, hbe]
  by_cases h : le[0] = 104
  ·rw [h]; rfl
  ·rw [decide_eq_false h, beq_eq_false_iff_ne]
   intro hh
   exact h (by simpa using hh)
 by_cases h104 : le[0] = 104
 ·obtain rfl : LT = false := by rw [hok, decide_eq_true h104]; rfl
  rw [decide_eq_true h104] at hE
  have d5 : (le.toList != [104]) = false := by rw [bne, hE]; rfl
  clear hLT hok hbe hl h1 h2 h0 hs1 h104
  go_enter Tryz.func67, Tryz.ntmps67
  go_wp2_with fail
  refine (HN.out _).mono ?_
  rintro e w' ⟨rfl, rfl⟩
  go_wp2_with fail
  refine (HEN.out _).mono ?_
  rintro e w' ⟨rfl, rfl⟩
  cases A with
  | false =>
   have HE : Hid (r = false) := Lib.hid (by rw [HF.out, Bool.false_and])
   go_wp2
   go_ret
   exact ⟨by rw [HE.out]; first | done | rfl | simp [*], below_one w _⟩
  | true =>
   by_cases p1 : 1 ≤ kd
   rotate_left
   ·have HE : Hid (r = false) := Lib.hid (by rw [HF.out, Bool.true_and, decide_eq_false p1, Bool.false_and])
    go_wp2
    go_ret
    exact ⟨by rw [HE.out]; first | done | rfl | simp [*], below_one w _⟩
   by_cases p2 : kd ≤ 6
   rotate_left
   ·have HE : Hid (r = false) := Lib.hid (by rw [HF.out, Bool.true_and, decide_eq_true p1, Bool.true_and, decide_eq_false p2, Bool.false_and])
    go_wp2
    go_ret
    exact ⟨by rw [HE.out]; first | done | rfl | simp [*], below_one w _⟩
   have HE : Hid (r = false) := Lib.hid (by rw [HF.out, Bool.true_and, decide_eq_true p1, Bool.true_and, decide_eq_true p2, Bool.true_and, Bool.false_and])
   go_wp2
   go_ret
   exact ⟨by rw [HE.out]; first | done | rfl | simp [*], below_one w _⟩
 ·obtain rfl : LT = true := by rw [hok, decide_eq_false h104]; rfl
  rw [decide_eq_false h104] at hE
  have d5 : (le.toList != [104]) = true := by rw [bne, hE]; rfl
  clear hLT hok hbe hl h1 h2 h0 hs1 h104
  go_enter Tryz.func67, Tryz.ntmps67
  go_wp2_with fail
  refine (HN.out _).mono ?_
  rintro e w' ⟨rfl, rfl⟩
  go_wp2_with fail
  refine (HEN.out _).mono ?_
  rintro e w' ⟨rfl, rfl⟩
  cases A with
  | false =>
   have HE : Hid (r = false) := Lib.hid (by rw [HF.out, Bool.false_and])
   go_wp2
   go_ret
   exact ⟨by rw [HE.out]; first | done | rfl | simp [*], below_one w _⟩
  | true =>
   by_cases p1 : 1 ≤ kd
   rotate_left
   ·have HE : Hid (r = false) := Lib.hid (by rw [HF.out, Bool.true_and, decide_eq_false p1, Bool.false_and])
    go_wp2
    go_ret
    exact ⟨by rw [HE.out]; first | done | rfl | simp [*], below_one w _⟩
   by_cases p2 : kd ≤ 6
   rotate_left
   ·have HE : Hid (r = false) := Lib.hid (by rw [HF.out, Bool.true_and, decide_eq_true p1, Bool.true_and, decide_eq_false p2, Bool.false_and])
    go_wp2
    go_ret
    exact ⟨by rw [HE.out]; first | done | rfl | simp [*], below_one w _⟩
   by_cases p3 : a ≤ b
   rotate_left
   ·have HE : Hid (r = false) := Lib.hid (by rw [HF.out, Bool.true_and, decide_eq_true p1, Bool.true_and, decide_eq_true p2, Bool.true_and, Bool.true_and, decide_eq_false p3, Bool.false_and])
    go_wp2
    go_ret
    exact ⟨by rw [HE.out]; first | done | rfl | simp [*], below_one w _⟩
   by_cases p4 : lo ≤ a
   rotate_left
   ·have HE : Hid (r = false) := Lib.hid (by rw [HF.out, Bool.true_and, decide_eq_true p1, Bool.true_and, decide_eq_true p2, Bool.true_and, Bool.true_and, decide_eq_true p3, Bool.true_and, decide_eq_false p4, Bool.false_and])
    go_wp2
    go_ret
    exact ⟨by rw [HE.out]; first | done | rfl | simp [*], below_one w _⟩
   by_cases p5 : b ≤ hi
   rotate_left
   ·have HE : Hid (r = false) := Lib.hid (by rw [HF.out, Bool.true_and, decide_eq_true p1, Bool.true_and, decide_eq_true p2, Bool.true_and, Bool.true_and, decide_eq_true p3, Bool.true_and, decide_eq_true p4, Bool.true_and, decide_eq_false p5])
    go_wp2
    go_ret
    exact ⟨by rw [HE.out]; first | done | rfl | simp [*], below_one w _⟩
   have HE : Hid (r = true) := Lib.hid (by rw [HF.out, Bool.true_and, decide_eq_true p1, Bool.true_and, decide_eq_true p2, Bool.true_and, Bool.true_and, decide_eq_true p3, Bool.true_and, decide_eq_true p4, Bool.true_and, decide_eq_true p5])
   go_wp2
   go_ret
   exact ⟨by rw [HE.out]; first | done | rfl | simp [*], below_one w _⟩
end Go.Proofs.YtopghlnoklajkaaGreatDoor

namespace Go.Proofs.YtopghlnoklajkaaGreatDoor
open Go.ChangeShapes Go.WideShapes Go.ChangeAt Go.RowKit

def addR (ys : List KeyV) (k : KeyV) : List KeyV := if addE ys k = 0 then ys ++ [k] else ys
theorem hasK_perm {xs ys : List KeyV} (h : ys.Perm xs) (nm : ByteArray) : hasK ys nm = hasK xs nm := by
 unfold hasK
 rw [Bool.eq_iff_iff, List.any_eq_true, List.any_eq_true]
 constructor
 ·rintro ⟨x, hx, hp⟩; exact ⟨x, h.mem_iff.1 hx, hp⟩
 ·rintro ⟨x, hx, hp⟩; exact ⟨x, h.mem_iff.2 hx, hp⟩
theorem letter_perm {xs ys : List KeyV} (h : ys.Perm xs) (l : ByteArray) : (letterK ys l).isSome = (letterK xs l).isSome := by
 unfold letterK
 rw [Bool.eq_iff_iff, List.find?_isSome, List.find?_isSome]
 constructor
 ·rintro ⟨x, hx, hp⟩; exact ⟨x, h.mem_iff.1 hx, hp⟩
 ·rintro ⟨x, hx, hp⟩; exact ⟨x, h.mem_iff.2 hx, hp⟩
theorem addE_perm {xs ys : List KeyV} (h : ys.Perm xs) (k : KeyV) : addE ys k = addE xs k := by
 unfold addE
 rw [hasK_perm h, letter_perm h, h.length_eq]
theorem addR_perm {xs ys : List KeyV} (h : ys.Perm xs) (k : KeyV) : (addR ys k).Perm (addK xs k) := by
 unfold addR addK
 rw [addE_perm h]
 split
 ·unfold insK
  refine List.Perm.trans ?_ List.perm_middle.symm
  rw [List.take_append_drop]
  exact (List.perm_append_singleton k ys).trans (h.cons k)
 ·exact h
theorem find_has (xs : List KeyV) (nm : ByteArray) : (findK xs nm).isSome = hasK xs nm := by
 unfold findK hasK
 rw [Bool.eq_iff_iff, List.find?_isSome, List.any_eq_true]

theorem parse_bad (k : Int) (s : ByteArray) (h : (parseV k s).2 ≠ 0) : (parseV k s).1 = zeroV := by
 have hio : ∀ (k : Int) (p : Int × Int), (intOk k p).2 ≠ 0 → (intOk k p).1 = zeroV := fun k p h => by
  unfold intOk at h ⊢
  split
  ·rename_i hc; rw [if_pos hc] at h; exact absurd rfl h
  ·rfl
 unfold parseV at h ⊢
 split
 ·rename_i hc; rw [if_pos hc] at h; exact hio _ _ h
 ·rename_i hc
  rw [if_neg hc] at h
  split
  ·rename_i hc; rw [if_pos hc] at h; exact hio _ _ h
  ·rename_i hc
   rw [if_neg hc] at h
   split
   ·rename_i hc; rw [if_pos hc] at h; exact hio _ _ h
   ·rename_i hc
    rw [if_neg hc] at h
    split
    ·rename_i hc
     rw [if_pos hc] at h
     split
     ·rename_i ht; rw [if_pos ht] at h; exact absurd rfl h
     ·rfl
    ·rename_i hc
     rw [if_neg hc] at h
     split
     ·rename_i hc
      rw [if_pos hc] at h
      split
      ·rename_i ht; rw [if_pos ht] at h; exact absurd rfl h
      ·rfl
     ·rfl
theorem parse_arg {w : World} {k : Int} {s : ByteArray} {x : Option Addr} {c : Nat} (hr : (parseV k s).1.words.length ≤ c) (ht : Txts w x (parseV k s).1.words) : ArgOk w (parseV k s).1 x c ∧ (parseV k s).1.words.length ≤ 2147483647 := by
 by_cases h : (parseV k s).2 = 0
 ·obtain ⟨b1, b2, b3⟩ := right_bounds (read_right h).1
  exact ⟨⟨ht, hr, by omega, (fun k h => Nat.le_trans (b2 k h) (by decide)), Nat.le_trans b3 (by decide)⟩, by omega⟩
 ·have hz := parse_bad k s h
  rw [hz] at hr ht ⊢
  exact ⟨⟨ht, hr, by decide, (fun k h => absurd h (by simp [zeroV])), by decide⟩, by decide⟩

set_option maxHeartbeats 1600000 in
set_option maxRecDepth 100000 in
theorem refDefault_any (k : KeyV) (w : World) (hs : k.dflt.size ≤ 2147483647) :
  Calls Tryz.prog 68 #[kAgg k] w fun e w' => e = .returned (.bool (dfltK k)) ∧ Below w.heap.size w w' := by
 obtain ⟨nm, kd, dl, a, b, le⟩ := k
 have HW : Hid (∀ o, Below w.heap.size w (w.alloc o)) := Lib.hid (below_one w)
 have HP : Hid (∀ o, Calls Tryz.prog 72 #[.int .i64 kd, .string dl] (w.alloc o) fun e w' => Below (w.alloc o).heap.size (w.alloc o) w' ∧ ∃ x c, e = .returned (.tuple #[.agg #[.int .i64 (parseV kd dl).1.kind, .int .i64 (parseV kd dl).1.int, .string (parseV kd dl).1.text, .slice x (parseV kd dl).1.words.length c], .int .i64 (parseV kd dl).2]) ∧
   ∀ W, Below w'.heap.size w' W → Calls Tryz.prog 102 #[.agg #[.int .i64 (parseV kd dl).1.kind, .int .i64 (parseV kd dl).1.int, .string (parseV kd dl).1.text, .slice x (parseV kd dl).1.words.length c], .int .i64 a, .int .i64 b] W fun e w' => e = .returned (.bool (withinV (parseV kd dl).1 a b)) ∧ Below W.heap.size W w') := Lib.hid fun o => by
  refine (refParse_any kd dl _ hs).mono ?_
  rintro e w' ⟨hb, x, c, rfl, hc, ht, _⟩
  obtain ⟨ha, hl⟩ := parse_arg hc ht
  exact ⟨hb, x, c, rfl, fun W hb2 => refWithin_any W _ x c a b (ha.below hb2) hl⟩
 have HD : Hid (dfltK ⟨nm, kd, dl, a, b, le⟩ = (decide ((parseV kd dl).2 = 0) && withinV (parseV kd dl).1 a b)) := Lib.hid rfl
 obtain ⟨r, hr⟩ : ∃ r, dfltK ⟨nm, kd, dl, a, b, le⟩ = r := ⟨_, rfl⟩
 rw [hr] at HD ⊢
 obtain ⟨Wn, hWn⟩ : ∃ Wn, withinV (parseV kd dl).1 a b = Wn := ⟨_, rfl⟩
 rw [hWn] at HP HD
 obtain ⟨p, hp⟩ : ∃ p, parseV kd dl = p := ⟨_, rfl⟩
 rw [hp] at HP HD
 obtain ⟨⟨vk, vn, vt, vw⟩, er⟩ := p
 simp only at HP HD
 obtain ⟨m, hm⟩ : ∃ m, vw.length = m := ⟨_, rfl⟩
 rw [hm] at HP
 unfold kAgg
 clear hr hp hs hWn hm
 by_cases he : er = 0
 ·rw [decide_eq_true he, Bool.true_and] at HD
  subst he
  go_enter Tryz.func68, Tryz.ntmps68
  go_wp2_with fail
  refine (HP.out _).mono ?_
  rintro e w1 ⟨hb1, x, c, rfl, hwi⟩
  have HWI := Lib.hid hwi
  have hbx := (box6_new w ⟨nm, kd, dl, a, b, le⟩ _).below hb1
  have c3 : ∀ o, (w1.alloc o).cell? ⟨w.heap.size, 3, none⟩ = some (.int .i64 a) := fun o => (hbx.below (below_one w1 o)).c3
  have c4 : ∀ o, (w1.alloc o).cell? ⟨w.heap.size, 4, none⟩ = some (.int .i64 b) := fun o => (hbx.below (below_one w1 o)).c4
  have HB1 : Hid (∀ o, Below w.heap.size w (w1.alloc o)) := Lib.hid fun o => ((HW.out _).trans (hb1.mono (HW.out _).size)).trans ((below_one w1 o).mono (Nat.le_trans (HW.out _).size hb1.size))
  have HA : Hid (∀ o, Below w1.heap.size w1 (w1.alloc o)) := Lib.hid (below_one w1)
  clear hb1 hwi hbx
  go_wp2_with fail
  refine (HWI.out _ (HA.out _)).mono ?_
  rintro e w2 ⟨rfl, hb2⟩
  have HB2 := Lib.hid ((HB1.out _).trans (hb2.mono (HB1.out _).size))
  clear hb2
  go_wp2
  go_ret
  exact ⟨by rw [HD.out]; first | done | rfl, HB2.out⟩
 ·have d0 : (er == 0) = false := beq_eq_false_iff_ne.2 he
  rw [decide_eq_false he, Bool.false_and] at HD
  clear he
  go_enter Tryz.func68, Tryz.ntmps68
  go_wp2_with fail
  refine (HP.out _).mono ?_
  rintro e w1 ⟨hb1, x, c, rfl, hwi⟩
  have HWI := Lib.hid hwi
  have hbx := (box6_new w ⟨nm, kd, dl, a, b, le⟩ _).below hb1
  have c3 : ∀ o, (w1.alloc o).cell? ⟨w.heap.size, 3, none⟩ = some (.int .i64 a) := fun o => (hbx.below (below_one w1 o)).c3
  have c4 : ∀ o, (w1.alloc o).cell? ⟨w.heap.size, 4, none⟩ = some (.int .i64 b) := fun o => (hbx.below (below_one w1 o)).c4
  have HB1 : Hid (∀ o, Below w.heap.size w (w1.alloc o)) := Lib.hid fun o => ((HW.out _).trans (hb1.mono (HW.out _).size)).trans ((below_one w1 o).mono (Nat.le_trans (HW.out _).size hb1.size))
  have HA : Hid (∀ o, Below w1.heap.size w1 (w1.alloc o)) := Lib.hid (below_one w1)
  clear hb1 hwi hbx
  go_wp2_with fail
  refine (HWI.out _ (HA.out _)).mono ?_
  rintro e w2 ⟨rfl, hb2⟩
  have HB2 := Lib.hid ((HB1.out _).trans (hb2.mono (HB1.out _).size))
  clear hb2
  go_wp2
  go_ret
  exact ⟨by rw [HD.out]; first | done | rfl, HB2.out⟩

structure RefAt (B : Nat) (w : World) (S : Nat) (v : Value) (ys : List KeyV) : Prop where
 cell : w.cell? ⟨S, 0, none⟩ = some v
 free : w.frozen? ⟨S, 0, none⟩ = false
 own : w.ownsRow B 73 6 v ys.length (flat ys)
 ne : v.ownBlock ≠ some S
 none_ : ys = [] → v = .slice none 0 0
 new : B ≤ S
theorem RefAt.lt {B : Nat} {w : World} {S : Nat} {v : Value} {ys : List KeyV} (h : RefAt B w S v ys) : S < w.heap.size := lt_of_cell h.cell
theorem RefAt.set {B : Nat} {w : World} {S : Nat} {v : Value} {ys : List KeyV} (h : RefAt B w S v ys) : ∃ x c, v = .slice x ys.length c ∧ SetAt w S x c ys := by
 rcases h.own.2 with ⟨h1, h2⟩ | ⟨g, cap, cur, h1, _, hg, hnc, _, _, htk⟩
 ·have he : ys = [] := List.eq_nil_of_length_eq_zero h2
  subst he
  exact ⟨none, 0, h1, ⟨by rw [h.cell, h1]; rfl, Keys.nil_ _ _, Nat.le_refl _, fun _ => ⟨rfl, rfl⟩, h.free⟩⟩
 ·refine ⟨_, cap, h1, ⟨by rw [h.cell, h1], Keys.of_block (t := 73) (fr := (0, 0)) hg fun j u hu => ?_, hnc, fun e => ?_, h.free⟩⟩
  ·rw [← htk, List.getElem?_take] at hu
   split at hu
   ·rw [Array.getElem?_toList] at hu; exact hu
   ·cases hu
  ·have := h.none_ e
   rw [h1] at this
   cases this
def RFr (S : Nat) (v : Value) (w w' : World) : Prop := w'.os = w.os ∧ w'.tape = w.tape ∧ w'.output = w.output ∧ w.heap.size ≤ w'.heap.size ∧ ∀ q, q < w.heap.size → q ≠ S → v.ownBlock ≠ some q → w'.heap[q]? = w.heap[q]?
theorem RefAt.keep {B : Nat} {w w' : World} {S : Nat} {v : Value} {ys : List KeyV} (h : RefAt B w S v ys) (hb : Below w.heap.size w w') : RefAt B w' S v ys :=
 ⟨(hb.cell (p := ⟨S, 0, none⟩) h.lt).trans h.cell, (hb.frozen (p := ⟨S, 0, none⟩) h.lt).trans h.free, h.own.kept (row := none) ⟨hb.os, hb.tape, hb.output, hb.size, fun k hk _ => hb.block k hk⟩ (by cases hv : v.ownBlock <;> simp), h.ne, h.none_, h.new⟩

theorem ref_fin {B S n : Nat} {w W W2 : World} {v v2 : Value} {ys : List KeyV} {k : KeyV} (h : RefAt B w S v ys) (hb : Below w.heap.size w W) (ho : W2.ownsRow B 73 6 v2 n (flat (ys ++ [k]))) (hn : (ys ++ [k]).length = n) (hg : W.grownBy W2 v.ownBlock) (hl : v.ownBlock = v2.ownBlock ∨ ∃ g, v2.ownBlock = some g ∧ W.heap.size ≤ g) :
  RefAt B (W2.setCell ⟨S, 0, none⟩ v2) S v2 (ys ++ [k]) ∧ RFr S v w (W2.setCell ⟨S, 0, none⟩ v2) ∧ (v2.ownBlock = v.ownBlock ∨ ∃ g, v2.ownBlock = some g ∧ w.heap.size ≤ g) := by
 subst hn
 have hS := h.lt
 have hSW : S < W.heap.size := Nat.lt_of_lt_of_le hS hb.size
 have hSk : W2.heap[S]? = W.heap[S]? := hg.block S hSW (fun e => h.ne e.symm)
 have hne : v2.ownBlock ≠ some S := by
  rcases hl with e | ⟨g, e, hle⟩
  ·rw [← e]; exact h.ne
  ·rw [e]; intro e2; injection e2 with e2; omega
 have hcW : W2.cell? ⟨S, 0, none⟩ = some v := by
  have : W2.cell? ⟨S, 0, none⟩ = W.cell? ⟨S, 0, none⟩ := by unfold World.cell?; rw [hSk]
  rw [this, hb.cell (p := ⟨S, 0, none⟩) hS]; exact h.cell
 have hfW : W2.frozen? ⟨S, 0, none⟩ = false := by
  have : W2.frozen? ⟨S, 0, none⟩ = W.frozen? ⟨S, 0, none⟩ := by unfold World.frozen?; rw [hSk]
  rw [this, hb.frozen (p := ⟨S, 0, none⟩) hS]; exact h.free
 refine ⟨⟨World.cell?_setCell_same _ _ _ hcW, by rw [World.frozen?_setCell]; exact hfW, ?_, hne, fun e => absurd e (by simp), h.new⟩, ⟨?_, ?_, ?_, ?_, fun q hq h1 h2 => ?_⟩, ?_⟩
 ·exact ho.kept (row := some S) ⟨rfl, rfl, rfl, by simp [World.setCell], fun q hq hne => Below.heap_setCell _ ⟨S, 0, none⟩ _ _ (fun e => hne (by rw [e]))⟩ (.inr (fun e => hne e))
 ·exact hg.os.trans hb.os
 ·exact hg.tape.trans hb.tape
 ·exact hg.output.trans hb.output
 ·have := hg.size; have := hb.size; simp [World.setCell]; omega
 ·rw [Below.heap_setCell _ ⟨S, 0, none⟩ _ _ h1, hg.block q (Nat.lt_of_lt_of_le hq hb.size) (fun e => h2 e.symm)]
  exact hb.block q hq
 ·rcases hl with e | ⟨g, e, hle⟩
  ·exact .inl e.symm
  ·exact .inr ⟨g, e, Nat.le_trans hb.size hle⟩

theorem step_key {ops : Array Oper} {o : Oper} {a : Act} {W : World} {K : Act → World → Prop} {Q : Exit → Act → World → Prop} {E : Prop} (hgd : o.guard = none) (s x : Operand)
  (ho : o.op = .call { callee := .builtin .append, args := #[s, x], argTypes := #[32, 32] }) {B n : Nat} {v : Value} {ys : List KeyV} (hown : W.ownsRow B 73 6 v n (flat ys)) (hB : B ≤ W.heap.size) (hn : n ≤ 1000000) (k : KeyV) (hs : a.eval s = v)
  {g c : Nat} (hx : a.eval x = .slice (some ⟨g, 0, none⟩) 1 c) (hk : Keys W (some ⟨g, 0, none⟩) [k])
  (h : ∀ g2 cap W2, W2.ownsRow B 73 6 (.slice (some ⟨g2, 0, none⟩) (n + 1) cap) (n + 1) (flat (ys ++ [k])) → W.grownBy W2 v.ownBlock → (v.ownBlock = some g2 ∨ g2 = W.heap.size) → K (a.put o.dst (.slice (some ⟨g2, 0, none⟩) (n + 1) cap)) W2) :
  if Region.wanted o (yielded ops a.tmps) = true then Oper.wp Tryz.prog o a W K Q else E := by
 obtain ⟨i0, hi, hz0, hz1, hz2⟩ := info_parts infoKey
 refine step_append_lies _ hgd s x _ ho B 73 i0 _ 6 72 Tryz.underlying32 hi hz0 hz1 hz2 rfl (by decide) v n (flat ys) hs hown ⟨g, 0, none⟩ 1 c (flat [k]) hx (by rw [flat_len]; rfl) (fun j u hu => by rw [add_at, Nat.zero_add]; exact hk.flat j u hu) (flat_one _) (by decide) (by unfold maxLen; omega) (by omega) hB _ rfl ?_
 intro g2 cap W2 h1 h2 h3 _
 rw [← flat_append] at h1
 exact h g2 cap W2 h1 h2 h3

theorem cell_blk {W W' : World} {R : Nat} (h : W'.heap[R]? = W.heap[R]?) (j : Nat) : W'.cell? ⟨R, j, none⟩ = W.cell? ⟨R, j, none⟩ := by unfold World.cell?; rw [h]
theorem frozen_blk {W W' : World} {R : Nat} (h : W'.heap[R]? = W.heap[R]?) (j : Nat) : W'.frozen? ⟨R, j, none⟩ = W.frozen? ⟨R, j, none⟩ := by unfold World.frozen?; rw [h]
set_option maxHeartbeats 3200000 in
set_option maxRecDepth 100000 in
theorem refAdd_any (B : Nat) (ys : List KeyV) (k : KeyV) (S : Nat) (v : Value) (w : World) (h : RefAt B w S v ys) (hl : ys.length ≤ 64) (hB : B ≤ w.heap.size) (h1 : k.name.size ≤ 4294967280) (h2 : k.dflt.size ≤ 2147483647) (h3 : k.letter.size ≤ 4294967280) :
  Calls Tryz.prog 33 #[.pointer (some ⟨S, 0, none⟩), kAgg k] w fun e w' => e = .returned (.int .i64 (addE ys k)) ∧ ∃ v', RefAt B w' S v' (addR ys k) ∧ RFr S v w w' ∧ (v'.ownBlock = v.ownBlock ∨ ∃ g, v'.ownBlock = some g ∧ w.heap.size ≤ g) := by
 have HR := Lib.hid h
 have HF : Hid (∀ W, Calls Tryz.prog 67 #[kAgg k] W fun e w' => e = .returned (.bool (formK k)) ∧ Below W.heap.size W w') := Lib.hid fun W => refForm_any k W h1 h3
 have HD : Hid (∀ W, Calls Tryz.prog 68 #[kAgg k] W fun e w' => e = .returned (.bool (dfltK k)) ∧ Below W.heap.size W w') := Lib.hid fun W => refDefault_any k W h2
 obtain ⟨x, c, hv, hset⟩ := h.set
 have HFI : Hid (∀ W, Below w.heap.size w W → Calls Tryz.prog 69 #[.pointer (some ⟨S, 0, none⟩), .string k.name] W fun e w' => e = .returned (oAgg (findK ys k.name)) ∧ Below W.heap.size W w') := Lib.hid fun W hb => refFind_any ys k.name S x c W (hset.below hb) (by omega)
 have HLE : Hid (∀ W, Below w.heap.size w W → Calls Tryz.prog 70 #[.pointer (some ⟨S, 0, none⟩), .string k.letter] W fun e w' => e = .returned (oAgg (letterK ys k.letter)) ∧ Below W.heap.size W w') := Lib.hid fun W hb => refLetter_any ys k.letter S x c W (hset.below hb) (by omega)
 have HSE : Hid (∀ W, Below w.heap.size w W → W.cell? ⟨S, 0, none⟩ = some v ∧ W.frozen? ⟨S, 0, none⟩ = false) := Lib.hid fun W hb => ⟨(hb.cell (p := ⟨S, 0, none⟩) h.lt).trans h.cell, (hb.frozen (p := ⟨S, 0, none⟩) h.lt).trans h.free⟩
 have HX0 : Hid (∀ t, Box6 (w.alloc (Obj.cells #[.string k.name, .int .i64 k.kind, .string k.dflt, .int .i64 k.least, .int .i64 k.most, .string k.letter] t)) w.heap.size k ∧ Below w.heap.size w (w.alloc (Obj.cells #[.string k.name, .int .i64 k.kind, .string k.dflt, .int .i64 k.least, .int .i64 k.most, .string k.letter] t))) := Lib.hid fun t => ⟨box6_new w k t, below_one w _⟩
 have HKEEP : Hid (∀ W, Below w.heap.size w W → RefAt B W S v ys ∧ RFr S v w W) := Lib.hid fun W hb => ⟨h.keep hb, ⟨hb.os, hb.tape, hb.output, hb.size, fun q hq _ _ => hb.block q hq⟩⟩
 obtain ⟨n, hn⟩ : ∃ n, ys.length = n := ⟨_, rfl⟩
 have HNN := Lib.hid hn
 have hSl := h.lt
 obtain ⟨E, hE⟩ : ∃ E, addE ys k = E := ⟨_, rfl⟩
 have HEE := Lib.hid hE
 have HNO : Hid (E ≠ 0 → addR ys k = ys) := Lib.hid fun he => by unfold addR; rw [hE, if_neg he]
 have HYE : Hid (E = 0 → addR ys k = ys ++ [k]) := Lib.hid fun he => by unfold addR; rw [hE, if_pos he]
 rw [hE]
 subst hv
 rw [hn] at hl HSE ⊢
 have HFIN : Hid (∀ W W2 g2 cap, Below w.heap.size w W → W2.ownsRow B 73 6 (.slice (some ⟨g2, 0, none⟩) (n + 1) cap) (n + 1) (flat (ys ++ [k])) → W.grownBy W2 (Value.slice x n c).ownBlock → ((Value.slice x n c).ownBlock = some g2 ∨ g2 = W.heap.size) →
   RefAt B (W2.setCell ⟨S, 0, none⟩ (.slice (some ⟨g2, 0, none⟩) (n + 1) cap)) S (.slice (some ⟨g2, 0, none⟩) (n + 1) cap) (ys ++ [k]) ∧ RFr S (.slice x n c) w (W2.setCell ⟨S, 0, none⟩ (.slice (some ⟨g2, 0, none⟩) (n + 1) cap)) ∧ ((Value.slice (some ⟨g2, 0, none⟩) (n + 1) cap).ownBlock = (Value.slice x n c).ownBlock ∨ ∃ g, (Value.slice (some ⟨g2, 0, none⟩) (n + 1) cap).ownBlock = some g ∧ w.heap.size ≤ g)) := Lib.hid fun W W2 g2 cap hb ho hg hl2 => by
  have h' := HR.out
  rw [hn] at h'
  refine ref_fin h' hb ho (by simp [hn]) hg ?_
  rcases hl2 with e | e
  ·exact .inl e
  ·exact .inr ⟨g2, rfl, by omega⟩
 have HOW : Hid (∀ W, Below w.heap.size w W → W.ownsRow B 73 6 (.slice x n c) n (flat ys)) := Lib.hid fun W hb => by
  have h' := (HR.out.keep hb).own
  rw [hn] at h'
  exact h'
 rw [hn] at HKEEP
 have HSG : Hid (∀ W W2, Below w.heap.size w W → W.grownBy W2 (Value.slice x n c).ownBlock → W2.cell? ⟨S, 0, none⟩ = some (.slice x n c) ∧ W2.frozen? ⟨S, 0, none⟩ = false) := Lib.hid fun W W2 hb hg => by
  have hne := HR.out.ne
  rw [hn] at hne
  have e := hg.block S (Nat.lt_of_lt_of_le hSl hb.size) (fun e => hne e.symm)
  exact ⟨(cell_blk e 0).trans (HSE.out W hb).1, (frozen_blk e 0).trans (HSE.out W hb).2⟩
 obtain ⟨rf, hrf⟩ : ∃ rf, formK k = rf := ⟨_, rfl⟩
 obtain ⟨rd, hrd⟩ : ∃ rd, dfltK k = rd := ⟨_, rfl⟩
 obtain ⟨G1, hG1⟩ : ∃ G1, (findK ys k.name).isSome = G1 := ⟨_, rfl⟩
 obtain ⟨G2, hG2⟩ : ∃ G2, (letterK ys k.letter).isSome = G2 := ⟨_, rfl⟩
 have HEQ : Hid (E = if rf = false then 50 else if rd = false then 53 else if G1 = true then 51 else if G2 = true then 52 else if 64 ≤ n then 54 else 0) := Lib.hid (by
  rw [← hE, ← hrf, ← hrd, ← hG1, ← hG2, find_has, ← hn]; rfl)
 obtain ⟨q1, hq1⟩ : ∃ q1, (findK ys k.name).getD kZero = q1 := ⟨_, rfl⟩
 obtain ⟨q2, hq2⟩ : ∃ q2, (letterK ys k.letter).getD kZero = q2 := ⟨_, rfl⟩
 unfold oAgg at HFI HLE
 rw [hrf] at HF
 rw [hrd] at HD
 rw [hG1, hq1] at HFI
 rw [hG2, hq2] at HLE
 clear h hset h1 h2 h3 hE hn HR hrf hrd hG1 hG2 hq1 hq2
 obtain ⟨nm, kd, dl, a, b, le⟩ := k
 obtain ⟨un, uk, ud, ua, ub, ul⟩ := q1
 obtain ⟨vn, vk, vd, va, vb, vl⟩ := q2
 unfold kAgg at HF HD HFI HLE ⊢
 simp only at HF HD HFI HLE HX0 ⊢
 go_enter Tryz.func33, Tryz.ntmps33
 go_wp2_with fail
 refine (HF.out _).mono ?_
 rintro e w1 ⟨rfl, hb1⟩
 have HX1 := Lib.hid ((HX0.out _).1.below hb1)
 have HB1 := Lib.hid ((HX0.out _).2.trans (hb1.mono (HX0.out _).2.size))
 clear hb1 HF HX0
 cases rf with
 | false =>
  have HE : Hid (E = 50) := Lib.hid (by rw [HEQ.out, if_pos rfl])
  have HK := Lib.hid (HKEEP.out _ HB1.out)
  go_wp2
  go_ret
  exact ⟨by rw [HE.out]; first | done | rfl, .slice x n c, by rw [HNO.out (by rw [HE.out]; decide)]; exact ⟨HK.out.1, HK.out.2, .inl rfl⟩⟩
 | true =>
  obtain ⟨c0, c1, c2, c3, c4, c5, _⟩ := HX1.out
  simp only at c0 c1 c2 c3 c4 c5
  go_wp2_with fail
  refine (HD.out _).mono ?_
  rintro e w2 ⟨rfl, hb2⟩
  have HX2 := Lib.hid (HX1.out.below hb2)
  have HB2 := Lib.hid (HB1.out.trans (hb2.mono HB1.out.size))
  clear hb2 HD HX1 HB1 c0 c1 c2 c3 c4 c5
  cases rd with
  | false =>
   have HE : Hid (E = 53) := Lib.hid (by rw [HEQ.out, if_neg (by decide), if_pos rfl])
   have HK := Lib.hid (HKEEP.out _ HB2.out)
   go_wp2
   go_ret
   exact ⟨by rw [HE.out]; first | done | rfl, .slice x n c, by rw [HNO.out (by rw [HE.out]; decide)]; exact ⟨HK.out.1, HK.out.2, .inl rfl⟩⟩
  | true =>
   have c0 : w2.cell? ⟨w.heap.size, 0, none⟩ = some (.string nm) := HX2.out.c0
   go_wp2_with fail
   refine (HFI.out _ HB2.out).mono ?_
   rintro e w3 ⟨rfl, hb3⟩
   have HX3 := Lib.hid (HX2.out.below hb3)
   have HB3 := Lib.hid (HB2.out.trans (hb3.mono HB2.out.size))
   have HB3A : Hid (∀ o, Below w.heap.size w (w3.alloc o)) := Lib.hid fun o => HB3.out.trans ((below_one w3 o).mono HB3.out.size)
   have hlt3 := HX3.out.lt
   have k5 : ∀ o, (w3.alloc o).cell? ⟨w.heap.size, 5, none⟩ = some (.string le) := fun o => (HX3.out.below (below_one w3 o)).c5
   have HXA : Hid (∀ o, Box6 (w3.alloc o) w.heap.size _) := Lib.hid fun o => HX3.out.below (below_one w3 o)
   clear hb3 HFI HX2 HB2 c0 hlt3
   go_wp2_with fail
   refine (HLE.out _ (HB3A.out _)).mono ?_
   rintro e w5 ⟨rfl, hb5⟩
   have HB5 := Lib.hid ((HB3A.out _).trans (hb5.mono (HB3A.out _).size))
   have HX5 := Lib.hid ((HXA.out _).below hb5)
   clear hb5 k5 HXA HLE HX3 HB3 HB3A
   have HB5A : Hid (∀ o, Below w.heap.size w (w5.alloc o)) := Lib.hid fun o => HB5.out.trans ((below_one w5 o).mono HB5.out.size)
   cases G1 with
   | true =>
    have HE : Hid (E = 51) := Lib.hid (by rw [HEQ.out, if_neg (by decide), if_neg (by decide), if_pos rfl])
    go_wp2
    go_ret
    exact ⟨by rw [HE.out]; first | done | rfl, .slice x n c, by rw [HNO.out (by rw [HE.out]; decide)]; exact ⟨(HKEEP.out _ (HB5A.out _)).1, (HKEEP.out _ (HB5A.out _)).2, .inl rfl⟩⟩
   | false =>
    cases G2 with
    | true =>
     have HE : Hid (E = 52) := Lib.hid (by rw [HEQ.out, if_neg (by decide), if_neg (by decide), if_neg (by decide), if_pos rfl])
     go_wp2
     go_ret
     exact ⟨by rw [HE.out]; first | done | rfl, .slice x n c, by rw [HNO.out (by rw [HE.out]; decide)]; exact ⟨(HKEEP.out _ (HB5A.out _)).1, (HKEEP.out _ (HB5A.out _)).2, .inl rfl⟩⟩
    | false =>
     have hlt5 := HX5.out.lt
     have sS : ∀ o, (w5.alloc o).cell? ⟨S, 0, none⟩ = some (.slice x n c) := fun o => (HSE.out _ (HB5A.out o)).1
     by_cases h64 : n = 64
     ·subst h64
      have HE : Hid (E = 54) := Lib.hid (by rw [HEQ.out, if_neg (by decide), if_neg (by decide), if_neg (by decide), if_neg (by decide), if_pos (by decide)])
      go_wp2
      go_ret
      exact ⟨by rw [HE.out]; first | done | rfl, .slice x 64 c, by rw [HNO.out (by rw [HE.out]; decide)]; exact ⟨(HKEEP.out _ (HB5A.out _)).1, (HKEEP.out _ (HB5A.out _)).2, .inl rfl⟩⟩
     ·have HE : Hid (E = 0) := Lib.hid (by rw [HEQ.out, if_neg (by decide), if_neg (by decide), if_neg (by decide), if_neg (by decide), if_neg (by omega)])
      have d64 : ((n : Int) == 64) = false := beq_eq_false_iff_ne.2 (by omega)
      have HX6 : Hid (∀ o, Box6 (w5.alloc o) w.heap.size _) := Lib.hid fun o => HX5.out.below (below_one w5 o)
      go_wp2
      have HB6 := Lib.hid (HB5A.out (Obj.cells #[.string vn, .int .i64 vk, .string vd, .int .i64 va, .int .i64 vb, .string vl] 73))
      have HX7 := Lib.hid (HX6.out (Obj.cells #[.string vn, .int .i64 vk, .string vd, .int .i64 va, .int .i64 vb, .string vl] 73))
      clear HX6 sS hlt5 h64 d64 HX5 HB5 HB5A
      generalize w5.alloc (Obj.cells #[.string vn, .int .i64 vk, .string vd, .int .i64 va, .int .i64 vb, .string vl] 73) = W6 at HB6 HX7 ⊢
      obtain ⟨c0, c1, c2, c3, c4, c5, _⟩ := HX7.out
      simp only at c0 c1 c2 c3 c4 c5
      obtain ⟨t0, t1⟩ := HSE.out _ HB6.out
      have t2 : ∀ o, (W6.alloc o).cell? ⟨S, 0, none⟩ = some (.slice x n c) := fun o => (HSE.out _ (HB6.out.trans ((below_one W6 o).mono HB6.out.size))).1
      have HBA : Hid (∀ o, Below w.heap.size w (W6.alloc o).drew) := Lib.hid fun o => (HB6.out.trans ((below_one W6 o).mono HB6.out.size)).trans ((below_drewN _ 1).mono (HB6.out.trans ((below_one W6 o).mono HB6.out.size)).size)
      have HKN : Hid (∀ t, Keys (W6.alloc (Obj.cells #[.string nm, .int .i64 kd, .string dl, .int .i64 a, .int .i64 b, .string le] t)).drew (some ⟨W6.heap.size, 0, none⟩) [⟨nm, kd, dl, a, b, le⟩]) := Lib.hid fun t => (keys_new W6 ⟨nm, kd, dl, a, b, le⟩ t).below (below_drewN _ 1)
      go_region_law (refine step_key rfl _ _ rfl (HOW.out _ (HBA.out _)) (Nat.le_trans hB (HBA.out _).size) (by omega) ⟨nm, kd, dl, a, b, le⟩ rfl rfl (HKN.out _) ?_; intro g2 cap W2 h1 h2 h3; have HFF := Lib.hid (HFIN.out _ _ _ _ (HBA.out _) h1 h2 h3); obtain ⟨s2, s3⟩ := HSG.out _ _ (HBA.out _) h2; clear h1 h2 h3)
      all_goals
       go_wp2
       go_ret
       exact ⟨by rw [HE.out]; first | done | rfl, _, by rw [HYE.out HE.out]; exact HFF.out⟩
end Go.Proofs.YtopghlnoklajkaaGreatDoor

namespace Go.Proofs.YtopghlnoklajkaaGreatDoor
open Go.ChangeShapes Go.WideShapes Go.ChangeAt Go.RowKit

structure Two (w0 w : World) (S : Nat) (x : Option Addr) (c X : Nat) (v : Value) (xs ys : List KeyV) : Prop where
 a : SetAt w S x c xs
 sorted : Sorted xs
 len : xs.length ≤ 64
 b : RefAt w0.heap.size w X v ys
 perm : ys.Perm xs
 ne : S ≠ X
 neS : v.ownBlock ≠ some S
 row : ∀ b off, x = some ⟨b, off, none⟩ → b ≠ X ∧ v.ownBlock ≠ some b
 newS : w0.heap.size ≤ S
 below : Below w0.heap.size w0 w
theorem SetAt.kept {w w' : World} {S : Nat} {x : Option Addr} {c : Nat} {xs : List KeyV} (h : SetAt w S x c xs) (hz : w.heap.size ≤ w'.heap.size) (hS : w'.heap[S]? = w.heap[S]?) (hx : ∀ b, x = some ⟨b, 0, none⟩ → b < w.heap.size → w'.heap[b]? = w.heap[b]?) : SetAt w' S x c xs :=
 ⟨(cell_blk hS 0).trans h.cell, fun i hi => by
  obtain ⟨b, e, hl, c0, c1, c2, c3, c4, c5⟩ := h.keys i hi
  have hb := hx b e hl
  exact ⟨b, e, Nat.lt_of_lt_of_le hl hz, (cell_blk hb _).trans c0, (cell_blk hb _).trans c1, (cell_blk hb _).trans c2, (cell_blk hb _).trans c3, (cell_blk hb _).trans c4, (cell_blk hb _).trans c5⟩, h.room, h.none_, (frozen_blk hS 0).trans h.free⟩
theorem RefAt.kept {B : Nat} {w w' : World} {X S : Nat} {v : Value} {ys : List KeyV} (h : RefAt B w X v ys) (hb : But S w w') (hX : X ≠ S) (hv : v.ownBlock ≠ some S) : RefAt B w' X v ys :=
 ⟨(cell_blk (hb.2.2.2.2 X h.lt hX) 0).trans h.cell, (frozen_blk (hb.2.2.2.2 X h.lt hX) 0).trans h.free,
  h.own.kept (row := some S) ⟨hb.1, hb.2.1, hb.2.2.1, hb.2.2.2.1, fun q hq hne => hb.2.2.2.2 q hq (fun e => hne (by rw [e]))⟩ (.inr hv), h.ne, h.none_, h.new⟩
theorem own_lt {w : World} {B : Nat} {e : TypeId} {size n : Nat} {v : Value} {xs : List Value} (h : w.ownsRow B e size v n xs) : ∀ g, v.ownBlock = some g → g < w.heap.size := by
 intro g hg
 rcases h.2 with ⟨h1, _⟩ | ⟨g', cap, cur, h1, _, hgg, _⟩
 ·rw [h1] at hg; cases hg
 ·rw [h1] at hg
  injection hg with hg
  have hg' : g' = g := hg
  rw [← hg']
  exact (Array.getElem?_eq_some_iff.1 hgg).1
theorem Two.first {w0 w w' : World} {S c X : Nat} {x : Option Addr} {v : Value} {xs ys zs : List KeyV} (h : Two w0 w S x c X v xs ys) (ha : Added w S zs w') :
  ∃ x' c', SetAt w' S x' c' zs ∧ RefAt w0.heap.size w' X v ys ∧ (∀ b off, x' = some ⟨b, off, none⟩ → b ≠ X ∧ v.ownBlock ≠ some b) ∧ Below w0.heap.size w0 w' ∧ w.heap.size ≤ w'.heap.size := by
 obtain ⟨⟨x', c', hs, hf⟩, hb⟩ := ha
 refine ⟨x', c', hs, h.b.kept hb h.ne.symm h.neS, fun b off e => ?_, h.below.trans (hb.below h.newS h.below.size), hb.2.2.2.1⟩
 rcases hf with hf | hf
 ·have : Value.slice x' zs.length c' = Value.slice x xs.length c := by
   have h1 := hs.cell
   rw [hf, h.a.cell] at h1
   exact (Option.some.inj h1).symm
  injection this with e1 _ _
  exact h.row b off (by rw [← e1]; exact e)
 ·have hle := hf b off e
  refine ⟨fun e2 => ?_, fun e2 => ?_⟩
  ·have := h.b.lt; omega
  ·have := own_lt h.b.own b e2; omega
theorem Two.second {w0 w w1 w2 : World} {S c X c' : Nat} {x x' : Option Addr} {v v2 : Value} {xs ys zs us : List KeyV} (h : Two w0 w S x c X v xs ys) (hs : SetAt w1 S x' c' zs) (hr : ∀ b off, x' = some ⟨b, off, none⟩ → b ≠ X ∧ v.ownBlock ≠ some b) (hb1 : Below w0.heap.size w0 w1)
  (h2 : RefAt w0.heap.size w2 X v2 us) (hf : RFr X v w1 w2) (ho : v2.ownBlock = v.ownBlock ∨ ∃ g, v2.ownBlock = some g ∧ w1.heap.size ≤ g) (hso : Sorted zs) (hl : zs.length ≤ 64) (hp : us.Perm zs) (hv : ∀ g, v.ownBlock = some g → w0.heap.size ≤ g) : Two w0 w2 S x' c' X v2 zs us := by
 have hSl : S < w1.heap.size := lt_of_cell hs.cell
 refine ⟨hs.kept hf.2.2.2.1 (hf.2.2.2.2 S hSl h.ne h.neS) (fun b e hl => hf.2.2.2.2 b hl (hr b 0 e).1 (hr b 0 e).2), hso, hl, h2, hp, h.ne, ?_, fun b off e => ⟨(hr b off e).1, ?_⟩, h.newS, ?_⟩
 ·rcases ho with ho | ⟨g, ho, hg⟩
  ·rw [ho]; exact h.neS
  ·rw [ho]; intro e; injection e with e; omega
 ·rcases ho with ho | ⟨g, ho, hg⟩
  ·rw [ho]; exact (hr b off e).2
  ·rw [ho]; intro e2
   injection e2 with e2
   have hne : zs ≠ [] := fun e3 => by have := (hs.none_ e3).1; rw [this] at e; cases e
   obtain ⟨b', e', hl', _⟩ := hs.keys 0 (List.length_pos_iff.2 hne)
   rw [e'] at e
   injection e with e
   injection e with e _ _
   omega
 ·refine ⟨hf.1.trans hb1.os, hf.2.1.trans hb1.tape, hf.2.2.1.trans hb1.output, Nat.le_trans hb1.size hf.2.2.2.1, fun q hq => ?_⟩
  rw [hf.2.2.2.2 q (Nat.lt_of_lt_of_le hq hb1.size) (fun e => by have := h2.new; omega) (fun e => by have := hv q e; omega)]
  exact hb1.block q hq
theorem refNew_any (w : World) : Calls Tryz.prog 31 #[] w fun e w' => e = .returned (.pointer (some ⟨w.heap.size, 0, none⟩)) ∧ Below w.heap.size w w' ∧ w'.cell? ⟨w.heap.size, 0, none⟩ = some (.slice none 0 0) ∧ w'.frozen? ⟨w.heap.size, 0, none⟩ = false := by
 have HE : Hid (∀ t, Below w.heap.size w (w.alloc (Obj.cells #[.slice none 0 0] t)) ∧ (w.alloc (Obj.cells #[.slice none 0 0] t)).cell? ⟨w.heap.size, 0, none⟩ = some (.slice none 0 0) ∧ (w.alloc (Obj.cells #[.slice none 0 0] t)).frozen? ⟨w.heap.size, 0, none⟩ = false) := Lib.hid fun t => ⟨below_one w _, by simp, by simp⟩
 go_enter Tryz.func31, Tryz.ntmps31
 go_wp2
 go_ret
 exact ⟨rfl, HE.out _⟩
end Go.Proofs.YtopghlnoklajkaaGreatDoor

namespace Go.Proofs.YtopghlnoklajkaaGreatDoor
open Go.ChangeShapes Go.WideShapes Go.ChangeAt Go.RowKit

structure Both (B : Nat) (w0 w : World) (F : Nat → Prop) (X Y : Nat) (dx : Option Addr) (dc : Nat) (hx : Option Addr) (hc : Nat) (ks : List KeyV) (ms : List SetM) (yk : Option Addr) (ck : Nat) (lv : Value) (ns : List SetM) : Prop where
 a : LayAt F w X dx dc hx hc ks ms
 ok : LayOk ks ms
 obj : SObj w Y (.slice yk ks.length ck) lv
 keys : Keys w yk ks
 sets : SetsAt B w lv ns
 same : ns.map (·.x) = ms.map (·.x)
 row : ∀ g, lv.ownBlock = some g → ¬ F g
 newX : w0.heap.size ≤ X
 newL : ∀ g, lv.ownBlock = some g → w0.heap.size ≤ g
 below : Below w0.heap.size w0 w
section
variable {B X Y X2 dc hc ck : Nat} {w0 w w' : World} {F : Nat → Prop} {dx hx yk : Option Addr} {ks : List KeyV} {ms ns : List SetM} {lv : Value}
theorem len_of_same {ns ms : List SetM} (h : ns.map (·.x) = ms.map (·.x)) : ns.length = ms.length := by simpa using congrArg List.length h
theorem row_lt {B n size : Nat} {e : TypeId} {v : Value} {xs : List Value} (h : w.ownsRow B e size v n xs) : ∀ g, v.ownBlock = some g → g < w.heap.size := fun g hg => (h.lt g hg).2
theorem Both.after (h : Both B w0 w F X Y dx dc hx hc ks ms yk ck lv ns) (hb : Below w.heap.size w w') : Both B w0 w' F X Y dx dc hx hc ks ms yk ck lv ns :=
 ⟨h.a.below hb, h.ok, h.obj.below hb, h.keys.below hb, h.sets.below hb, h.same, h.row, h.newX, h.newL, h.below.trans (hb.mono h.below.size)⟩
theorem TxAt.butX {x : Option Addr} {ts : List ByteArray} {n m c d : Nat} {t : TypeId} (h : TxAt w x ts) (hX : w.heap[X]? = some (Obj.cells #[.slice dx n c, .slice hx m d] t)) (hb : But X w w') : TxAt w' x ts := fun k hk => by
 obtain ⟨b, off, e, hl, hc⟩ := h k hk
 have hne : b ≠ X := by
  rintro rfl
  rw [cell_of_row w b (off + k) _ _ _ hX] at hc
  have h3 : off + k = 0 ∨ off + k = 1 ∨ 2 ≤ off + k := by omega
  rcases h3 with h3 | h3 | h3
  ·rw [h3] at hc; cases hc
  ·rw [h3] at hc; cases hc
  ·rw [Array.getElem?_eq_none (by simpa using h3)] at hc; cases hc
 exact ⟨b, off, e, Nat.lt_of_lt_of_le hl hb.2.2.2.1, (hb.cell (p := ⟨b, off + k, none⟩) hl hne).trans hc⟩
theorem Keys.butX {x : Option Addr} {xs : List KeyV} {n m c d : Nat} {t : TypeId} (h : Keys w x xs) (hX : w.heap[X]? = some (Obj.cells #[.slice dx n c, .slice hx m d] t)) (hb : But X w w') : Keys w' x xs := fun i hi => by
 obtain ⟨b, e, hl, c0, c1, c2, c3, c4, c5⟩ := h i hi
 have hne : b ≠ X := by
  rintro rfl
  have h0 := (h 0 (by omega))
  obtain ⟨b2, e2, _, d0, _⟩ := h0
  rw [e] at e2
  injection e2 with e2
  injection e2 with e2 _ _
  subst e2
  rw [Nat.zero_mul, cell_of_row w b 0 _ _ _ hX] at d0
  cases d0
 exact ⟨b, e, Nat.lt_of_lt_of_le hl hb.2.2.2.1, (hb.cell (p := ⟨b, _, none⟩) hl hne).trans c0, (hb.cell (p := ⟨b, _, none⟩) hl hne).trans c1, (hb.cell (p := ⟨b, _, none⟩) hl hne).trans c2, (hb.cell (p := ⟨b, _, none⟩) hl hne).trans c3, (hb.cell (p := ⟨b, _, none⟩) hl hne).trans c4, (hb.cell (p := ⟨b, _, none⟩) hl hne).trans c5⟩
theorem but_grown (hb : But X w w') : w.grownBy w' (some X) := ⟨hb.1, hb.2.1, hb.2.2.1, hb.2.2.2.1, fun k hk hne => hb.2.2.2.2 k hk (fun e => hne (by rw [e]))⟩
theorem SetsAt.butX {n m c d : Nat} {t : TypeId} {v : Value} (h : SetsAt B w v ns) (hX : w.heap[X]? = some (Obj.cells #[.slice dx n c, .slice hx m d] t)) (ht : t ≠ 50) (hb : But X w w') : SetsAt B w' v ns :=
 ⟨h.row.kept (but_grown hb) (.inr (own_ne h.row hX ht)), fun m hm => ⟨(h.wds m hm).1.butX hX hb, (h.wds m hm).2.1, (h.wds m hm).2.2⟩⟩
theorem SObj.butX {n m c d : Nat} {t : TypeId} {kv : Value} (h : SObj w Y kv lv) (hX : w.heap[X]? = some (Obj.cells #[.slice dx n c, .slice hx m d] t)) (ht : t ≠ 87) (hb : But X w w') : SObj w' Y kv lv := by
 obtain ⟨fr, h⟩ := h
 have hne : Y ≠ X := by
  rintro rfl
  rw [h] at hX
  injection hX with hX
  injection hX with _ hX _
  exact ht hX.symm
 exact ⟨fr, (hb.2.2.2.2 Y (heap_ltF h) hne).trans h⟩
theorem Both.first {F' : Nat → Prop} {hx' : Option Addr} {hc' : Nat} {ms' : List SetM} (h : Both B w0 w F X Y dx dc hx hc ks ms yk ck lv ns) (hl : LayAt F' w' X dx dc hx' hc' ks ms') (hok : LayOk ks ms') (hF : ∀ b, F' b → F b ∨ w.heap.size ≤ b) (hb : But X w w') :
  (∀ W, Below w'.heap.size w' W → LayAt F' W X dx dc hx' hc' ks ms') ∧ LayOk ks ms' ∧ SObj w' Y (.slice yk ks.length ck) lv ∧ Keys w' yk ks ∧ SetsAt B w' lv ns ∧ (∀ g, lv.ownBlock = some g → ¬ F' g) ∧ Below w0.heap.size w0 w' := by
 have hX := h.a.obj
 refine ⟨fun W hW => hl.below hW, hok, h.obj.butX hX (by decide) hb, h.keys.butX hX hb, h.sets.butX hX (by decide) hb, fun g hg hf => ?_, h.below.trans (hb.below h.newX h.below.size)⟩
 rcases hF g hf with h1 | h1
 ·exact h.row g hg h1
 ·have := row_lt h.sets.row g hg
  omega
theorem Both.second {ns' : List SetM} (ha : LayAt F w X dx dc hx hc ks ms) (hok : LayOk ks ms) (ho : SObj w Y (.slice yk ks.length ck) lv) (hk : Keys w yk ks) (hs0 : SetsAt B w lv ns) (hrow : ∀ g, lv.ownBlock = some g → ¬ F g) (hnX : w0.heap.size ≤ X) (hnL : ∀ g, lv.ownBlock = some g → w0.heap.size ≤ g) (hbel : Below w0.heap.size w0 w)
  (hs : SetsAt B w' lv ns') (hg : w.grownBy w' lv.ownBlock) (hsame : ns'.map (·.x) = ms.map (·.x)) : Both B w0 w' F X Y dx dc hx hc ks ms yk ck lv ns' := by
 have hbe : Below w0.heap.size w0 w' := hbel.grown hg hbel.size hnL
 rcases Nat.eq_zero_or_pos ns.length with h0 | h0
 ·have hne : lv.ownBlock = none ∨ ∃ g, lv.ownBlock = some g := by cases lv.ownBlock <;> simp
  rcases hne with h1 | ⟨g, h1⟩
  ·have hb : Below w.heap.size w w' := (Below.refl _ w).grown hg (Nat.le_refl _) (fun k hk => by rw [h1] at hk; cases hk)
   exact ⟨ha.below hb, hok, ho.below hb, hk.below hb, hs, hsame, hrow, hnX, hnL, hbe⟩
  ·obtain ⟨a, t, fr, hgg, htt⟩ : ∃ a t fr, w.heap[g]? = some (Obj.cells a t fr) ∧ t = 50 := by
    rcases hs0.row.2 with ⟨h2, _⟩ | ⟨g', cap, cur, h2, _, hgg, _⟩
    ·rw [h2] at h1; cases h1
    ·rw [h2] at h1
     have : g' = g := by simpa [Value.ownBlock] using h1
     subst this
     exact ⟨_, _, _, hgg, rfl⟩
   subst htt
   have hks : ks = [] := List.eq_nil_of_length_eq_zero (by
    have h2 := len_of_same hsame
    have h3 := hok.len
    have h4 := hs.row.1
    have h5 := hs0.row.1
    have e1 := sFlat_len ns'
    have e2 := sFlat_len ns
    rcases hs0.row.2 with ⟨h6, h7⟩ | ⟨g', cap, cur, h6, _⟩
    ·rw [h6] at h1; cases h1
    ·rcases hs.row.2 with ⟨h8, h9⟩ | ⟨g2, cap2, cur2, h8, _⟩
     ·rw [h8] at h6; cases h6
     ·rw [h6] at h8
      injection h8 with _ h8 _
      omega)
   subst hks
   have hb : But g w w' := ⟨hg.os, hg.tape, hg.output, hg.size, fun k hk hn => hg.block k hk (fun e => hn (by rw [h1] at e; injection e))⟩
   have hgX : g ≠ X := by
    rintro rfl
    rw [ha.obj] at hgg
    injection hgg with hgg
    injection hgg with _ hgg _
    exact absurd hgg (by decide)
   have hgY : g ≠ Y := by
    rintro rfl
    obtain ⟨fr2, ho⟩ := ho
    rw [ho] at hgg
    injection hgg with hgg
    injection hgg with _ hgg _
    exact absurd hgg (by decide)
   obtain ⟨fr2, ho⟩ := ho
   exact ⟨ha.but hb hgX (hrow g h1), hok, ⟨fr2, (hb.2.2.2.2 Y (heap_ltF ho) (fun e => hgY e.symm)).trans ho⟩, fun i hi => absurd hi (Nat.not_lt_zero i), hs, hsame, hrow, hnX, hnL, hbe⟩
 ·obtain ⟨g, c, hv, hgl, hcs⟩ := hs0.cells h0
  have h1 : lv.ownBlock = some g := by rw [hv]; rfl
  have hgg : ∃ a, w.heap[g]? = some (Obj.cells a 50 (0, 0)) := by
   rcases hs0.row.2 with ⟨h2, _⟩ | ⟨g', cap, cur, h2, _, hgg, _⟩
   ·rw [h2] at h1; cases h1
   ·rw [h2] at h1
    have : g' = g := by simpa [Value.ownBlock] using h1
    subst this
    exact ⟨_, hgg⟩
  obtain ⟨cur, hgg⟩ := hgg
  have hb : But g w w' := ⟨hg.os, hg.tape, hg.output, hg.size, fun k hk hn => hg.block k hk (fun e => hn (by rw [h1] at e; injection e))⟩
  have hgX : g ≠ X := by
   rintro rfl
   rw [ha.obj] at hgg
   injection hgg with hgg
   injection hgg with _ hgg _
   exact absurd hgg (by decide)
  obtain ⟨fr2, ho⟩ := ho
  have hgY : g ≠ Y := by
   rintro rfl
   rw [ho] at hgg
   injection hgg with hgg
   injection hgg with _ hgg _
   exact absurd hgg (by decide)
  have hc2 := hcs 2 (by decide)
  have hk2 : Keys w' yk ks := fun i hi => by
   obtain ⟨b, e, hl, c0, c1, c2, c3, c4, c5⟩ := hk i hi
   have hne : b ≠ g := by
    rintro rfl
    obtain ⟨b2, e2, _, d0, d1, d2, _⟩ := hk 0 (by omega)
    rw [e] at e2
    injection e2 with e2
    injection e2 with e2 _ _
    subst e2
    rw [Nat.zero_mul] at d2 hc2
    rw [d2] at hc2
    cases hc2
   exact ⟨b, e, Nat.lt_of_lt_of_le hl hb.2.2.2.1, (hb.cell (p := ⟨b, _, none⟩) hl hne).trans c0, (hb.cell (p := ⟨b, _, none⟩) hl hne).trans c1, (hb.cell (p := ⟨b, _, none⟩) hl hne).trans c2, (hb.cell (p := ⟨b, _, none⟩) hl hne).trans c3, (hb.cell (p := ⟨b, _, none⟩) hl hne).trans c4, (hb.cell (p := ⟨b, _, none⟩) hl hne).trans c5⟩
  exact ⟨ha.but hb hgX (hrow g h1), hok, ⟨fr2, (hb.2.2.2.2 Y (heap_ltF ho) (fun e => hgY e.symm)).trans ho⟩, hk2, hs, hsame, hrow, hnX, hnL, hbe⟩
end
end Go.Proofs.YtopghlnoklajkaaGreatDoor
