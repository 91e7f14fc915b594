/-
  KeyRefForm.
-/
import Derived.Test.YtbgoooljkdjjhaaGreatDoorQKeyRefs
import Derived.Test.YtbgoooljkdjjhaaGreatDoorQGlyphNames3
namespace Go.Proofs.YtbgoooljkdjjhaaGreatDoor
open Go.ChangeShapes Go.WideShapes Go.ChangeAt Go.RowKit

def endsK (k : Int) : Int × Int := if k = 2 then (-4611686018427387904, 4611686018427387904) else if k = 3 then (0, 1125899906842624) else if k = 4 then (0, 1099511627776) else if k = 6 then (0, 16) else (0, 0)
set_option maxRecDepth 100000 in
theorem ends_any (k : Int) (w : World) : Calls Tryz.prog 88 #[.int .i64 k] w fun e w' => e = .returned (.tuple #[.int .i64 (endsK k).1, .int .i64 (endsK k).2]) ∧ w = w' := by
  by_cases h2 : k = 2
  · subst h2
    go_enter Tryz.func88, Tryz.ntmps88
    go_wp2
    go_ret2
    exact ⟨rfl, rfl⟩
  by_cases h3 : k = 3
  · subst h3
    go_enter Tryz.func88, Tryz.ntmps88
    go_wp2
    go_ret2
    exact ⟨rfl, rfl⟩
  by_cases h4 : k = 4
  · subst h4
    go_enter Tryz.func88, Tryz.ntmps88
    go_wp2
    go_ret2
    exact ⟨rfl, rfl⟩
  by_cases h6 : k = 6
  · subst h6
    go_enter Tryz.func88, Tryz.ntmps88
    go_wp2
    go_ret2
    exact ⟨rfl, rfl⟩
  have hE : endsK k = (0, 0) := by unfold endsK; rw [if_neg h2, if_neg h3, if_neg h4, if_neg h6]
  have d2 : (k == 2) = false := beq_eq_false_iff_ne.2 h2
  have d3 : (k == 3) = false := beq_eq_false_iff_ne.2 h3
  have d4 : (k == 4) = false := beq_eq_false_iff_ne.2 h4
  have d6 : (k == 6) = false := beq_eq_false_iff_ne.2 h6
  rw [hE]
  clear hE h2 h3 h4 h6
  go_enter Tryz.func88, Tryz.ntmps88
  go_wp2
  go_ret2
  exact ⟨rfl, rfl⟩
theorem right2 (n : Int) : rightV (numV 2 n) = true ↔ (-4611686018427387904 ≤ n ∧ n ≤ 4611686018427387904) := by
  unfold rightV
  rw [if_neg (by show ¬ (2 : Int) = 1; decide), if_pos (show (numV 2 n).kind = 2 from rfl)]
  exact ⟨fun h => of_decide_eq_true (Bool.and_eq_true_iff.1 (Bool.and_eq_true_iff.1 h).1).1, fun h => Bool.and_eq_true_iff.2 ⟨Bool.and_eq_true_iff.2 ⟨decide_eq_true h, rfl⟩, rfl⟩⟩
theorem right3 (n : Int) : rightV (numV 3 n) = true ↔ (0 ≤ n ∧ n ≤ 1125899906842624) := by
  unfold rightV
  rw [if_neg (by show ¬ (3 : Int) = 1; decide), if_neg (by show ¬ (3 : Int) = 2; decide), if_pos (show (numV 3 n).kind = 3 ∨ (numV 3 n).kind = 4 from .inl rfl)]
  exact ⟨fun h => of_decide_eq_true (Bool.and_eq_true_iff.1 (Bool.and_eq_true_iff.1 h).1).1, fun h => Bool.and_eq_true_iff.2 ⟨Bool.and_eq_true_iff.2 ⟨decide_eq_true h, rfl⟩, rfl⟩⟩
theorem right4 (n : Int) : rightV (numV 4 n) = true ↔ (0 ≤ n ∧ n ≤ 1099511627776) := by
  unfold rightV
  rw [if_neg (by show ¬ (4 : Int) = 1; decide), if_neg (by show ¬ (4 : Int) = 2; decide), if_pos (show (numV 4 n).kind = 3 ∨ (numV 4 n).kind = 4 from .inr rfl)]
  exact ⟨fun h => of_decide_eq_true (Bool.and_eq_true_iff.1 (Bool.and_eq_true_iff.1 h).1).1, fun h => Bool.and_eq_true_iff.2 ⟨Bool.and_eq_true_iff.2 ⟨decide_eq_true h, rfl⟩, rfl⟩⟩
theorem bounds_ends (k a b : Int) : boundsOk k a b = (decide (1 ≤ k) && (decide (k ≤ 6) && (decide (a ≤ b) && (decide ((endsK k).1 ≤ a) && decide (b ≤ (endsK k).2))))) := by
  rw [Bool.eq_iff_iff]
  by_cases h : 1 ≤ k ∧ k ≤ 6
  · have h6 : k = 1 ∨ k = 2 ∨ k = 3 ∨ k = 4 ∨ k = 5 ∨ k = 6 := by omega
    rcases h6 with rfl | rfl | rfl | rfl | rfl | rfl
    all_goals
      simp only [boundsOk, endsK, Bool.and_eq_true, decide_eq_true_iff]
      simp [right2, right3, right4]
      try omega
  · have : boundsOk k a b = false := by
      unfold boundsOk
      rw [if_neg (by omega), if_neg (by omega), if_neg (by omega)]
    rw [this]
    simp
    omega
theorem form_ref (k : KeyV) : formK k = (nameB k.name.data.toList && (decide (1 ≤ k.kind) && (decide (k.kind ≤ 6) && (letterOk k.letter.data.toList && (decide (k.least ≤ k.most) && (decide ((endsK k.kind).1 ≤ k.least) && decide (k.most ≤ (endsK k.kind).2))))))) := by
  unfold formK
  rw [bounds_ends]
  cases nameB k.name.data.toList <;> cases letterOk k.letter.data.toList <;> cases decide (1 ≤ k.kind) <;> cases decide (k.kind ≤ 6) <;> rfl
theorem cls_small {c : Int} : cls c = 1 ↔ 97 ≤ c ∧ c ≤ 122 := by
  constructor
  · intro h
    unfold cls at h
    repeat' split at h
    all_goals omega
  · intro h
    unfold cls
    rw [if_pos h]
set_option maxHeartbeats 3200000 in
set_option maxRecDepth 100000 in
theorem refForm_any (k : KeyV) (w : World) (h1 : k.name.size ≤ 4294967280) (h2 : k.letter.size ≤ 4294967280) :
    Calls Tryz.prog 63 #[kAgg k] w fun e w' => e = .returned (.bool (formK k)) ∧ Below w.heap.size w w' := by
  have hF := form_ref k
  obtain ⟨nm, kd, dl, a, b, le⟩ := k
  simp only at h1 h2 hF
  obtain ⟨r, hr⟩ : ∃ r, formK ⟨nm, kd, dl, a, b, le⟩ = r := ⟨_, rfl⟩
  rw [hr] at hF ⊢
  have HN : Hid (∀ W, Calls Tryz.prog 41 #[.string nm] W fun e w' => e = .returned (.bool (nameB nm.data.toList)) ∧ W = w') := Lib.hid fun W => refIsName_any nm W (by omega)
  have HEN : Hid (∀ W, Calls Tryz.prog 88 #[.int .i64 kd] W fun e w' => e = .returned (.tuple #[.int .i64 (endsK kd).1, .int .i64 (endsK kd).2]) ∧ W = w') := Lib.hid fun W => ends_any kd W
  obtain ⟨A, hA⟩ : ∃ A, nameB nm.data.toList = A := ⟨_, rfl⟩
  obtain ⟨lo, hlo⟩ : ∃ lo, (endsK kd).1 = lo := ⟨_, rfl⟩
  obtain ⟨hi, hhi⟩ : ∃ hi, (endsK kd).2 = hi := ⟨_, rfl⟩
  obtain ⟨LT, hLT⟩ : ∃ LT, letterOk le.data.toList = LT := ⟨_, rfl⟩
  rw [hA] at HN hF
  rw [hlo, hhi] at HEN hF
  rw [hLT] at hF
  have HF := Lib.hid hF
  unfold kAgg
  clear hr hF hA hlo hhi
  have hl : le.data.toList.length = le.size := by simp
  by_cases h0 : le = ⟨#[]⟩
  · subst h0
    obtain rfl : true = LT := hLT
    clear hl h1 h2
    go_enter Tryz.func63, Tryz.ntmps63
    go_wp2_with fail
    refine (HN.out _).mono ?_
    rintro e w' ⟨rfl, rfl⟩
    go_wp2_with fail
    refine (HEN.out _).mono ?_
    rintro e w' ⟨rfl, rfl⟩
    cases A with
    | false =>
      have HE : Hid (r = false) := Lib.hid (by rw [HF.out, Bool.false_and])
      go_wp2
      go_ret
      exact ⟨by rw [HE.out]; first | done | rfl | simp [*], below_one w _⟩
    | true =>
      by_cases p1 : 1 ≤ kd
      rotate_left
      · have HE : Hid (r = false) := Lib.hid (by rw [HF.out, Bool.true_and, decide_eq_false p1, Bool.false_and])
        go_wp2
        go_ret
        exact ⟨by rw [HE.out]; first | done | rfl | simp [*], below_one w _⟩
      by_cases p2 : kd ≤ 6
      rotate_left
      · have HE : Hid (r = false) := Lib.hid (by rw [HF.out, Bool.true_and, decide_eq_true p1, Bool.true_and, decide_eq_false p2, Bool.false_and])
        go_wp2
        go_ret
        exact ⟨by rw [HE.out]; first | done | rfl | simp [*], below_one w _⟩
      by_cases p3 : a ≤ b
      rotate_left
      · have HE : Hid (r = false) := Lib.hid (by rw [HF.out, Bool.true_and, decide_eq_true p1, Bool.true_and, decide_eq_true p2, Bool.true_and, Bool.true_and, decide_eq_false p3, Bool.false_and])
        go_wp2
        go_ret
        exact ⟨by rw [HE.out]; first | done | rfl | simp [*], below_one w _⟩
      by_cases p4 : lo ≤ a
      rotate_left
      · have HE : Hid (r = false) := Lib.hid (by rw [HF.out, Bool.true_and, decide_eq_true p1, Bool.true_and, decide_eq_true p2, Bool.true_and, Bool.true_and, decide_eq_true p3, Bool.true_and, decide_eq_false p4, Bool.false_and])
        go_wp2
        go_ret
        exact ⟨by rw [HE.out]; first | done | rfl | simp [*], below_one w _⟩
      by_cases p5 : b ≤ hi
      rotate_left
      · have HE : Hid (r = false) := Lib.hid (by rw [HF.out, Bool.true_and, decide_eq_true p1, Bool.true_and, decide_eq_true p2, Bool.true_and, Bool.true_and, decide_eq_true p3, Bool.true_and, decide_eq_true p4, Bool.true_and, decide_eq_false p5])
        go_wp2
        go_ret
        exact ⟨by rw [HE.out]; first | done | rfl | simp [*], below_one w _⟩
      have HE : Hid (r = true) := Lib.hid (by rw [HF.out, Bool.true_and, decide_eq_true p1, Bool.true_and, decide_eq_true p2, Bool.true_and, Bool.true_and, decide_eq_true p3, Bool.true_and, decide_eq_true p4, Bool.true_and, decide_eq_true p5])
      go_wp2
      go_ret
      exact ⟨by rw [HE.out]; first | done | rfl | simp [*], below_one w _⟩
  have d0 : le.toList.isEmpty = false := emp_false' (fun h => h0 (by rw [← mkB_self le, h]; rfl))
  by_cases hs1 : le.size = 1
  rotate_left
  · have q1 : ((le.size : Int) == 1) = false := beq_eq_false_iff_ne.2 (by omega)
    have hz : le.size ≠ 0 := fun h => h0 (by rw [← mkB_self le, List.eq_nil_of_length_eq_zero (hl.trans h)]; rfl)
    obtain rfl : LT = false := hLT.symm.trans (letterOk_long (by omega))
    clear hLT hl h1 h2 h0 hs1 hz
    go_enter Tryz.func63, Tryz.ntmps63
    go_wp2_with fail
    refine (HN.out _).mono ?_
    rintro e w' ⟨rfl, rfl⟩
    go_wp2_with fail
    refine (HEN.out _).mono ?_
    rintro e w' ⟨rfl, rfl⟩
    cases A with
    | false =>
      have HE : Hid (r = false) := Lib.hid (by rw [HF.out, Bool.false_and])
      go_wp2
      go_ret
      exact ⟨by rw [HE.out]; first | done | rfl | simp [*], below_one w _⟩
    | true =>
      by_cases p1 : 1 ≤ kd
      rotate_left
      · have HE : Hid (r = false) := Lib.hid (by rw [HF.out, Bool.true_and, decide_eq_false p1, Bool.false_and])
        go_wp2
        go_ret
        exact ⟨by rw [HE.out]; first | done | rfl | simp [*], below_one w _⟩
      by_cases p2 : kd ≤ 6
      rotate_left
      · have HE : Hid (r = false) := Lib.hid (by rw [HF.out, Bool.true_and, decide_eq_true p1, Bool.true_and, decide_eq_false p2, Bool.false_and])
        go_wp2
        go_ret
        exact ⟨by rw [HE.out]; first | done | rfl | simp [*], below_one w _⟩
      have HE : Hid (r = false) := Lib.hid (by rw [HF.out, Bool.true_and, decide_eq_true p1, Bool.true_and, decide_eq_true p2, Bool.true_and, Bool.false_and])
      go_wp2
      go_ret
      exact ⟨by rw [HE.out]; first | done | rfl | simp [*], below_one w _⟩
  have hlt : 0 < le.size := by omega
  have q1 : ((le.size : Int) == 1) = true := beq_iff_eq.2 (by omega)
  have hb := byte_le le 0 hlt
  have hbe : le.data.toList = [le[0]] := by
    have := drop_byte le 0 hlt
    rw [List.drop_zero] at this
    rw [this, List.drop_eq_nil_of_le (by rw [hl]; omega)]
  have hok : LT = (decide (cls (le[0].toNat : Int) = 1) && !decide (le[0] = 104)) := by rw [← hLT, hbe]; rfl
  by_cases c1 : 97 ≤ (le[0].toNat : Int)
  rotate_left
  · obtain rfl : LT = false := by rw [hok, decide_eq_false (fun h => c1 (cls_small.1 h).1), Bool.false_and]
    clear hLT hok hbe hl h1 h2 h0 hs1
    go_enter Tryz.func63, Tryz.ntmps63
    go_wp2_with fail
    refine (HN.out _).mono ?_
    rintro e w' ⟨rfl, rfl⟩
    go_wp2_with fail
    refine (HEN.out _).mono ?_
    rintro e w' ⟨rfl, rfl⟩
    cases A with
    | false =>
      have HE : Hid (r = false) := Lib.hid (by rw [HF.out, Bool.false_and])
      go_wp2
      go_ret
      exact ⟨by rw [HE.out]; first | done | rfl | simp [*], below_one w _⟩
    | true =>
      by_cases p1 : 1 ≤ kd
      rotate_left
      · have HE : Hid (r = false) := Lib.hid (by rw [HF.out, Bool.true_and, decide_eq_false p1, Bool.false_and])
        go_wp2
        go_ret
        exact ⟨by rw [HE.out]; first | done | rfl | simp [*], below_one w _⟩
      by_cases p2 : kd ≤ 6
      rotate_left
      · have HE : Hid (r = false) := Lib.hid (by rw [HF.out, Bool.true_and, decide_eq_true p1, Bool.true_and, decide_eq_false p2, Bool.false_and])
        go_wp2
        go_ret
        exact ⟨by rw [HE.out]; first | done | rfl | simp [*], below_one w _⟩
      have HE : Hid (r = false) := Lib.hid (by rw [HF.out, Bool.true_and, decide_eq_true p1, Bool.true_and, decide_eq_true p2, Bool.true_and, Bool.false_and])
      go_wp2
      go_ret
      exact ⟨by rw [HE.out]; first | done | rfl | simp [*], below_one w _⟩
  by_cases c2 : (le[0].toNat : Int) ≤ 122
  rotate_left
  · obtain rfl : LT = false := by rw [hok, decide_eq_false (fun h => c2 (cls_small.1 h).2), Bool.false_and]
    clear hLT hok hbe hl h1 h2 h0 hs1
    go_enter Tryz.func63, Tryz.ntmps63
    go_wp2_with fail
    refine (HN.out _).mono ?_
    rintro e w' ⟨rfl, rfl⟩
    go_wp2_with fail
    refine (HEN.out _).mono ?_
    rintro e w' ⟨rfl, rfl⟩
    cases A with
    | false =>
      have HE : Hid (r = false) := Lib.hid (by rw [HF.out, Bool.false_and])
      go_wp2
      go_ret
      exact ⟨by rw [HE.out]; first | done | rfl | simp [*], below_one w _⟩
    | true =>
      by_cases p1 : 1 ≤ kd
      rotate_left
      · have HE : Hid (r = false) := Lib.hid (by rw [HF.out, Bool.true_and, decide_eq_false p1, Bool.false_and])
        go_wp2
        go_ret
        exact ⟨by rw [HE.out]; first | done | rfl | simp [*], below_one w _⟩
      by_cases p2 : kd ≤ 6
      rotate_left
      · have HE : Hid (r = false) := Lib.hid (by rw [HF.out, Bool.true_and, decide_eq_true p1, Bool.true_and, decide_eq_false p2, Bool.false_and])
        go_wp2
        go_ret
        exact ⟨by rw [HE.out]; first | done | rfl | simp [*], below_one w _⟩
      have HE : Hid (r = false) := Lib.hid (by rw [HF.out, Bool.true_and, decide_eq_true p1, Bool.true_and, decide_eq_true p2, Bool.true_and, Bool.false_and])
      go_wp2
      go_ret
      exact ⟨by rw [HE.out]; first | done | rfl | simp [*], below_one w _⟩
  rw [decide_eq_true (cls_small.2 ⟨c1, c2⟩), Bool.true_and] at hok
  have hE : (le.toList == [104]) = decide (le[0] = 104) := by
    rw [toList_eq, hbe]
    by_cases h : le[0] = 104
    · rw [h]; rfl
    · rw [decide_eq_false h, beq_eq_false_iff_ne]
      intro hh
      exact h (by simpa using hh)
  by_cases h104 : le[0] = 104
  · obtain rfl : LT = false := by rw [hok, decide_eq_true h104]; rfl
    rw [decide_eq_true h104] at hE
    have d5 : (le.toList != [104]) = false := by rw [bne, hE]; rfl
    clear hLT hok hbe hl h1 h2 h0 hs1 h104
    go_enter Tryz.func63, Tryz.ntmps63
    go_wp2_with fail
    refine (HN.out _).mono ?_
    rintro e w' ⟨rfl, rfl⟩
    go_wp2_with fail
    refine (HEN.out _).mono ?_
    rintro e w' ⟨rfl, rfl⟩
    cases A with
    | false =>
      have HE : Hid (r = false) := Lib.hid (by rw [HF.out, Bool.false_and])
      go_wp2
      go_ret
      exact ⟨by rw [HE.out]; first | done | rfl | simp [*], below_one w _⟩
    | true =>
      by_cases p1 : 1 ≤ kd
      rotate_left
      · have HE : Hid (r = false) := Lib.hid (by rw [HF.out, Bool.true_and, decide_eq_false p1, Bool.false_and])
        go_wp2
        go_ret
        exact ⟨by rw [HE.out]; first | done | rfl | simp [*], below_one w _⟩
      by_cases p2 : kd ≤ 6
      rotate_left
      · have HE : Hid (r = false) := Lib.hid (by rw [HF.out, Bool.true_and, decide_eq_true p1, Bool.true_and, decide_eq_false p2, Bool.false_and])
        go_wp2
        go_ret
        exact ⟨by rw [HE.out]; first | done | rfl | simp [*], below_one w _⟩
      have HE : Hid (r = false) := Lib.hid (by rw [HF.out, Bool.true_and, decide_eq_true p1, Bool.true_and, decide_eq_true p2, Bool.true_and, Bool.false_and])
      go_wp2
      go_ret
      exact ⟨by rw [HE.out]; first | done | rfl | simp [*], below_one w _⟩
  · obtain rfl : LT = true := by rw [hok, decide_eq_false h104]; rfl
    rw [decide_eq_false h104] at hE
    have d5 : (le.toList != [104]) = true := by rw [bne, hE]; rfl
    clear hLT hok hbe hl h1 h2 h0 hs1 h104
    go_enter Tryz.func63, Tryz.ntmps63
    go_wp2_with fail
    refine (HN.out _).mono ?_
    rintro e w' ⟨rfl, rfl⟩
    go_wp2_with fail
    refine (HEN.out _).mono ?_
    rintro e w' ⟨rfl, rfl⟩
    cases A with
    | false =>
      have HE : Hid (r = false) := Lib.hid (by rw [HF.out, Bool.false_and])
      go_wp2
      go_ret
      exact ⟨by rw [HE.out]; first | done | rfl | simp [*], below_one w _⟩
    | true =>
      by_cases p1 : 1 ≤ kd
      rotate_left
      · have HE : Hid (r = false) := Lib.hid (by rw [HF.out, Bool.true_and, decide_eq_false p1, Bool.false_and])
        go_wp2
        go_ret
        exact ⟨by rw [HE.out]; first | done | rfl | simp [*], below_one w _⟩
      by_cases p2 : kd ≤ 6
      rotate_left
      · have HE : Hid (r = false) := Lib.hid (by rw [HF.out, Bool.true_and, decide_eq_true p1, Bool.true_and, decide_eq_false p2, Bool.false_and])
        go_wp2
        go_ret
        exact ⟨by rw [HE.out]; first | done | rfl | simp [*], below_one w _⟩
      by_cases p3 : a ≤ b
      rotate_left
      · have HE : Hid (r = false) := Lib.hid (by rw [HF.out, Bool.true_and, decide_eq_true p1, Bool.true_and, decide_eq_true p2, Bool.true_and, Bool.true_and, decide_eq_false p3, Bool.false_and])
        go_wp2
        go_ret
        exact ⟨by rw [HE.out]; first | done | rfl | simp [*], below_one w _⟩
      by_cases p4 : lo ≤ a
      rotate_left
      · have HE : Hid (r = false) := Lib.hid (by rw [HF.out, Bool.true_and, decide_eq_true p1, Bool.true_and, decide_eq_true p2, Bool.true_and, Bool.true_and, decide_eq_true p3, Bool.true_and, decide_eq_false p4, Bool.false_and])
        go_wp2
        go_ret
        exact ⟨by rw [HE.out]; first | done | rfl | simp [*], below_one w _⟩
      by_cases p5 : b ≤ hi
      rotate_left
      · have HE : Hid (r = false) := Lib.hid (by rw [HF.out, Bool.true_and, decide_eq_true p1, Bool.true_and, decide_eq_true p2, Bool.true_and, Bool.true_and, decide_eq_true p3, Bool.true_and, decide_eq_true p4, Bool.true_and, decide_eq_false p5])
        go_wp2
        go_ret
        exact ⟨by rw [HE.out]; first | done | rfl | simp [*], below_one w _⟩
      have HE : Hid (r = true) := Lib.hid (by rw [HF.out, Bool.true_and, decide_eq_true p1, Bool.true_and, decide_eq_true p2, Bool.true_and, Bool.true_and, decide_eq_true p3, Bool.true_and, decide_eq_true p4, Bool.true_and, decide_eq_true p5])
      go_wp2
      go_ret
      exact ⟨by rw [HE.out]; first | done | rfl | simp [*], below_one w _⟩
end Go.Proofs.YtbgoooljkdjjhaaGreatDoor
