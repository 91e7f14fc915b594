/-
  KeyForm.
-/
import Derived.Test.YtbgoooljkdjjhaaGreatDoorQKeyLetter
import Derived.Test.YtbgoooljkdjjhaaGreatDoorQValueParse
namespace Go.Proofs.YtbgoooljkdjjhaaGreatDoor
open Go.ChangeShapes Go.WideShapes Go.ChangeAt Go.RowKit

/-- May that be a letter of a definition? -/
def letterOk (l : List UInt8) : Bool := match l with
  | [] => true
  | [c] => decide (cls c.toNat = 1) && !decide (c = 104)
  | _ => false
theorem letterOk_long {l : List UInt8} (h : 1 < l.length) : letterOk l = false := by
  match l, h with
  | _ :: _ :: _, _ => rfl

set_option maxRecDepth 100000 in
theorem letterMay_any (l : ByteArray) (w : World) (hT : Tab w) (hs : l.size ≤ maxLen) :
    Calls Tryz.prog 82 #[.string l] w fun e w' => e = .returned (.bool (letterOk l.data.toList)) ∧ w = w' := by
  unfold maxLen at hs
  have hl : l.data.toList.length = l.size := by simp
  obtain ⟨r, hr⟩ : ∃ r, letterOk l.data.toList = r := ⟨_, rfl⟩
  rw [hr]
  by_cases h0 : l = ⟨#[]⟩
  · subst h0
    have HE : Hid (r = true) := Lib.hid (hr.symm.trans rfl)
    clear hl hs hT hr
    go_enter Tryz.func82, Tryz.ntmps82
    go_wp2
    go_ret
    exact ⟨by rw [HE.out]; first | done | rfl, rfl⟩
  have d0 : l.toList.isEmpty = false := emp_false' (fun h => h0 (by rw [← mkB_self l, h]; rfl))
  by_cases h1 : l.size = 1
  · have hlt : 0 < l.size := by omega
    have q1 : ((l.size : Int) == 1) = true := beq_iff_eq.2 (by omega)
    have hb := byte_le l 0 hlt
    have hbe : l.data.toList = [l[0]] := by
      have := drop_byte l 0 hlt
      rw [List.drop_zero] at this
      rw [this, List.drop_eq_nil_of_le (by rw [hl]; omega)]
    by_cases c1 : cls (l[0].toNat : Int) = 1
    · have d1 : (cls (l[0].toNat : Int) == 1) = true := beq_iff_eq.2 c1
      have hE : (l.toList == [104]) = decide (l[0] = 104) := by
        rw [toList_eq, hbe]
        by_cases h : l[0] = 104
        · rw [h]; rfl
        · rw [decide_eq_false h, beq_eq_false_iff_ne]
          intro hh
          exact h (by simpa using hh)
      have HE : Hid (r = !(l.toList == [104])) := Lib.hid (by rw [hE, ← hr, hbe]; show (decide (cls l[0].toNat = 1) && !decide (l[0] = 104)) = _; rw [decide_eq_true c1, Bool.true_and])
      obtain ⟨q, hq⟩ : ∃ q, (l.toList == [104]) = q := ⟨_, rfl⟩
      rw [hq] at HE
      clear hE hbe c1 h0 hl hr
      go_enter Tryz.func82, Tryz.ntmps82
      go_wp2_with (go_at_call 66; refine (class_any _ _ hT).mono ?_; rintro e w' ⟨rfl, rfl⟩)
      go_ret
      exact ⟨by rw [HE.out]; first | done | rfl, rfl⟩
    · have d1 : (cls (l[0].toNat : Int) == 1) = false := beq_eq_false_iff_ne.2 c1
      have HE : Hid (r = false) := Lib.hid (by rw [← hr, hbe]; show (decide (cls l[0].toNat = 1) && !decide (l[0] = 104)) = _; rw [decide_eq_false c1, Bool.false_and])
      clear hbe c1 h0 hl hr
      go_enter Tryz.func82, Tryz.ntmps82
      go_wp2_with (go_at_call 66; refine (class_any _ _ hT).mono ?_; rintro e w' ⟨rfl, rfl⟩)
      go_ret
      exact ⟨by rw [HE.out]; first | done | rfl, rfl⟩
  · have q1 : ((l.size : Int) == 1) = false := beq_eq_false_iff_ne.2 (by omega)
    have h2 : l.size ≠ 0 := fun h => h0 (by rw [← mkB_self l, List.eq_nil_of_length_eq_zero (hl.trans h)]; rfl)
    have HE : Hid (r = false) := Lib.hid (by rw [← hr, letterOk_long (by omega)])
    clear h0 h1 h2 hl hT hr
    go_enter Tryz.func82, Tryz.ntmps82
    go_wp2
    go_ret
    exact ⟨by rw [HE.out]; first | done | rfl, rfl⟩

def numV (k n : Int) : Val := ⟨k, n, ⟨#[]⟩, []⟩
theorem numArg (w : World) (k n : Int) : ArgOk w (numV k n) none 0 := ⟨Txts.nil_ _ _, Nat.le_refl _, by show (0 : Nat) ≤ 4611686018427387904; decide, fun k h => absurd h (by simp [numV]), by show (0 : Nat) ≤ maxLen; decide⟩
set_option maxRecDepth 100000 in
theorem isNumber_any (k n : Int) (w : World) (hT : Tab w) :
    Calls Tryz.prog 106 #[.int .i64 k, .int .i64 n] w fun e w' => e = .returned (.bool (rightV (numV k n))) ∧ Below w.heap.size w w' := by
  have HR := Lib.hid (right_any w (numV k n) none 0 (numArg w k n) hT)
  obtain ⟨r, hr⟩ : ∃ r, rightV (numV k n) = r := ⟨_, rfl⟩
  rw [hr] at HR ⊢
  unfold argV numV at HR
  simp only [List.length_nil] at HR
  clear hr hT
  go_enter Tryz.func106, Tryz.ntmps106
  go_wp2_with fail
  refine HR.out.mono ?_
  rintro e w' ⟨rfl, hb⟩
  have HB := Lib.hid hb
  clear hb
  go_wp2
  go_ret
  exact ⟨rfl, HB.out⟩

/-- Is a definition's kind one, and may those be its bounds? -/
def boundsOk (k a b : Int) : Bool :=
  if k = 1 ∨ k = 5 then decide (a = 0) && decide (b = 0)
  else if k = 2 ∨ k = 3 ∨ k = 4 then decide (a ≤ b) && (rightV (numV k a) && rightV (numV k b))
  else if k = 6 then decide (0 ≤ a) && (decide (a ≤ b) && decide (b ≤ 16))
  else false
set_option maxHeartbeats 1600000 in
set_option maxRecDepth 100000 in
theorem kbounds_any (nm dl le : ByteArray) (k a b : Int) (w : World) (hT : Tab w) :
    Calls Tryz.prog 83 #[kAgg ⟨nm, k, dl, a, b, le⟩] w fun e w' => e = .returned (.bool (boundsOk k a b)) ∧ Below w.heap.size w w' := by
  have HT := Lib.hid hT
  have HR : Hid (boundsOk k a b = boundsOk k a b) := Lib.hid rfl
  obtain ⟨r, hr⟩ : ∃ r, boundsOk k a b = r := ⟨_, rfl⟩
  rw [hr]
  replace HR := Lib.hid hr
  unfold kAgg
  clear hT hr
  by_cases h15 : k = 1 ∨ k = 5
  · have HE : Hid (r = (decide (a = 0) && decide (b = 0))) := Lib.hid (by rw [← HR.out]; unfold boundsOk; rw [if_pos h15])
    have d0 : ((k == 1) || (k == 5)) = true := by rcases h15 with rfl | rfl <;> rfl
    by_cases ha : a = 0
    · by_cases hb : b = 0
      · subst ha hb
        rcases h15 with rfl | rfl
        all_goals
          go_enter Tryz.func83, Tryz.ntmps83
          go_wp2
          go_ret
          exact ⟨by rw [HE.out]; first | done | rfl, below_one w _⟩
      · have d1 : (b == 0) = false := beq_eq_false_iff_ne.2 hb
        have d2 : decide (b = 0) = false := decide_eq_false hb
        rw [d2, Bool.and_false] at HE
        subst ha
        rcases h15 with rfl | rfl
        all_goals
          go_enter Tryz.func83, Tryz.ntmps83
          go_wp2
          go_ret
          exact ⟨by rw [HE.out]; first | done | rfl, below_one w _⟩
    · have d1 : (a == 0) = false := beq_eq_false_iff_ne.2 ha
      have d2 : decide (a = 0) = false := decide_eq_false ha
      rw [d2, Bool.false_and] at HE
      rcases h15 with rfl | rfl
      all_goals
        go_enter Tryz.func83, Tryz.ntmps83
        go_wp2
        go_ret
        exact ⟨by rw [HE.out]; first | done | rfl, below_one w _⟩
  by_cases h234 : k = 2 ∨ k = 3 ∨ k = 4
  · have HE : Hid (r = (decide (a ≤ b) && (rightV (numV k a) && rightV (numV k b)))) := Lib.hid (by rw [← HR.out]; unfold boundsOk; rw [if_neg h15, if_pos h234])
    clear HR h15
    have HC : Hid (∀ n w1, Below w.heap.size w w1 → Calls Tryz.prog 106 #[.int .i64 k, .int .i64 n] w1 fun e w' => e = .returned (.bool (rightV (numV k n))) ∧ Below w1.heap.size w1 w') := Lib.hid fun n w1 hb => isNumber_any k n w1 (HT.out.below hb)
    obtain ⟨ra, hra⟩ : ∃ ra, rightV (numV k a) = ra := ⟨_, rfl⟩
    obtain ⟨rb, hrb⟩ : ∃ rb, rightV (numV k b) = rb := ⟨_, rfl⟩
    have HA : Hid (∀ w1, Below w.heap.size w w1 → Calls Tryz.prog 106 #[.int .i64 k, .int .i64 a] w1 fun e w' => e = .returned (.bool ra) ∧ Below w1.heap.size w1 w') := Lib.hid fun w1 hb => by have := HC.out a w1 hb; rw [hra] at this; exact this
    have HB : Hid (∀ w1, Below w.heap.size w w1 → Calls Tryz.prog 106 #[.int .i64 k, .int .i64 b] w1 fun e w' => e = .returned (.bool rb) ∧ Below w1.heap.size w1 w') := Lib.hid fun w1 hb => by have := HC.out b w1 hb; rw [hrb] at this; exact this
    rw [hra, hrb] at HE
    clear HC hra hrb HT
    have h0 : Hid (∀ o, Below w.heap.size w (w.alloc o)) := Lib.hid (below_one w)
    by_cases hab : a ≤ b
    · rw [decide_eq_true hab, Bool.true_and] at HE
      cases ra with
      | false =>
        rw [Bool.false_and] at HE
        rcases h234 with rfl | rfl | rfl
        all_goals
          go_enter Tryz.func83, Tryz.ntmps83
          go_wp2_with fail
          refine (HA.out _ (h0.out _)).mono ?_
          rintro e w1 ⟨rfl, hb1⟩
          have HB1 := Lib.hid ((h0.out _).trans (hb1.mono (h0.out _).size))
          clear hb1
          go_wp2
          go_ret
          exact ⟨by rw [HE.out]; first | done | rfl, HB1.out⟩
      | true =>
        rw [Bool.true_and] at HE
        rcases h234 with rfl | rfl | rfl
        all_goals
          go_enter Tryz.func83, Tryz.ntmps83
          go_wp2_with fail
          refine (HA.out _ (h0.out _)).mono ?_
          rintro e w1 ⟨rfl, hb1⟩
          obtain ⟨c0, c1, c2, c3, c4, c5, _⟩ := (box6_new w ⟨nm, _, dl, a, b, le⟩ _).below hb1
          simp only at c0 c1 c2 c3 c4 c5
          have HB1 := Lib.hid ((h0.out _).trans (hb1.mono (h0.out _).size))
          clear hb1
          go_wp2_with fail
          refine (HB.out _ HB1.out).mono ?_
          rintro e w2 ⟨rfl, hb2⟩
          have HB2 := Lib.hid (HB1.out.trans (hb2.mono HB1.out.size))
          clear hb2
          go_wp2
          go_ret
          exact ⟨by rw [HE.out]; first | done | rfl, HB2.out⟩
    · rw [decide_eq_false hab, Bool.false_and] at HE
      rcases h234 with rfl | rfl | rfl
      all_goals
        go_enter Tryz.func83, Tryz.ntmps83
        go_wp2
        go_ret
        exact ⟨by rw [HE.out]; first | done | rfl, h0.out _⟩
  by_cases h6 : k = 6
  · have HE : Hid (r = (decide (0 ≤ a) && (decide (a ≤ b) && decide (b ≤ 16)))) := Lib.hid (by rw [← HR.out]; unfold boundsOk; rw [if_neg h15, if_neg h234, if_pos h6])
    subst h6
    clear HR h15 h234
    by_cases h0 : 0 ≤ a
    · rw [decide_eq_true h0, Bool.true_and] at HE
      by_cases h1 : a ≤ b
      · rw [decide_eq_true h1, Bool.true_and] at HE
        go_enter Tryz.func83, Tryz.ntmps83
        go_wp2
        go_ret
        exact ⟨by rw [HE.out]; first | done | rfl, below_one w _⟩
      · rw [decide_eq_false h1, Bool.false_and] at HE
        go_enter Tryz.func83, Tryz.ntmps83
        go_wp2
        go_ret
        exact ⟨by rw [HE.out]; first | done | rfl, below_one w _⟩
    · rw [decide_eq_false h0, Bool.false_and] at HE
      go_enter Tryz.func83, Tryz.ntmps83
      go_wp2
      go_ret
      exact ⟨by rw [HE.out]; first | done | rfl, below_one w _⟩
  · have HE : Hid (r = false) := Lib.hid (by rw [← HR.out]; unfold boundsOk; rw [if_neg h15, if_neg h234, if_neg h6])
    have e1 : (k == 1) = false := beq_eq_false_iff_ne.2 (fun h => h15 (Or.inl h))
    have e5 : (k == 5) = false := beq_eq_false_iff_ne.2 (fun h => h15 (Or.inr h))
    have e2 : (k == 2) = false := beq_eq_false_iff_ne.2 (fun h => h234 (Or.inl h))
    have e3 : (k == 3) = false := beq_eq_false_iff_ne.2 (fun h => h234 (Or.inr (Or.inl h)))
    have e4 : (k == 4) = false := beq_eq_false_iff_ne.2 (fun h => h234 (Or.inr (Or.inr h)))
    have e6 : (k == 6) = false := beq_eq_false_iff_ne.2 h6
    clear HR h15 h234 h6
    go_enter Tryz.func83, Tryz.ntmps83
    go_wp2
    go_ret
    exact ⟨by rw [HE.out]; first | done | rfl, below_one w _⟩

/-- Has a definition its form? -/
def formK (k : KeyV) : Bool := nameB k.name.data.toList && (letterOk k.letter.data.toList && boundsOk k.kind k.least k.most)
set_option maxHeartbeats 1600000 in
set_option maxRecDepth 100000 in
theorem hasForm_any (k : KeyV) (w : World) (hT : Tab w) (h1 : k.name.size ≤ maxLen) (h2 : k.letter.size ≤ maxLen) :
    Calls Tryz.prog 58 #[kAgg k] w fun e w' => e = .returned (.bool (formK k)) ∧ Below w.heap.size w w' := by
  obtain ⟨nm, kd, dl, a, b, le⟩ := k
  have HW : Hid (∀ o, Below w.heap.size w (w.alloc o)) := Lib.hid (below_one w)
  have HA : Hid (∀ o, Calls Tryz.prog 39 #[.string nm] (w.alloc o) fun e w' => e = .returned (.bool (nameB nm.data.toList)) ∧ w.alloc o = w') := Lib.hid fun o => isName_any nm _ (hT.below (below_one w o)) h1
  have HB : Hid (∀ o, Calls Tryz.prog 82 #[.string le] (w.alloc o) fun e w' => e = .returned (.bool (letterOk le.data.toList)) ∧ w.alloc o = w') := Lib.hid fun o => letterMay_any le _ (hT.below (below_one w o)) h2
  have HC : Hid (∀ o, Calls Tryz.prog 83 #[kAgg ⟨nm, kd, dl, a, b, le⟩] (w.alloc o) fun e w' => e = .returned (.bool (boundsOk kd a b)) ∧ Below (w.alloc o).heap.size (w.alloc o) w') := Lib.hid fun o => kbounds_any nm dl le kd a b _ (hT.below (below_one w o))
  have HD : Hid (formK ⟨nm, kd, dl, a, b, le⟩ = (nameB nm.data.toList && (letterOk le.data.toList && boundsOk kd a b))) := Lib.hid rfl
  obtain ⟨ra, hra⟩ : ∃ ra, nameB nm.data.toList = ra := ⟨_, rfl⟩
  obtain ⟨rb, hrb⟩ : ∃ rb, letterOk le.data.toList = rb := ⟨_, rfl⟩
  obtain ⟨rc, hrc⟩ : ∃ rc, boundsOk kd a b = rc := ⟨_, rfl⟩
  rw [hra] at HA HD
  rw [hrb] at HB HD
  rw [hrc] at HC HD
  obtain ⟨r, hr⟩ : ∃ r, formK ⟨nm, kd, dl, a, b, le⟩ = r := ⟨_, rfl⟩
  rw [hr] at HD ⊢
  unfold kAgg at HC ⊢
  simp only at h1 h2 HC ⊢
  clear hT h1 h2 hra hrb hrc hr
  cases ra with
  | false =>
    go_enter Tryz.func58, Tryz.ntmps58
    go_wp2_with fail
    refine (HA.out _).mono ?_
    rintro e w' ⟨rfl, rfl⟩
    go_wp2
    go_ret
    exact ⟨by rw [HD.out]; first | done | rfl, HW.out _⟩
  | true =>
    cases rb with
    | false =>
      go_enter Tryz.func58, Tryz.ntmps58
      go_wp2_with fail
      refine (HA.out _).mono ?_
      rintro e w' ⟨rfl, rfl⟩
      go_wp2_with fail
      refine (HB.out _).mono ?_
      rintro e w' ⟨rfl, rfl⟩
      go_wp2
      go_ret
      exact ⟨by rw [HD.out]; first | done | rfl, HW.out _⟩
    | true =>
      go_enter Tryz.func58, Tryz.ntmps58
      go_wp2_with fail
      refine (HA.out _).mono ?_
      rintro e w' ⟨rfl, rfl⟩
      go_wp2_with fail
      refine (HB.out _).mono ?_
      rintro e w' ⟨rfl, rfl⟩
      go_wp2_with fail
      refine (HC.out _).mono ?_
      rintro e w' ⟨rfl, hb⟩
      have H := Lib.hid ((HW.out _).trans (hb.mono (HW.out _).size))
      clear hb
      go_wp2
      go_ret
      exact ⟨by rw [HD.out]; first | done | rfl, H.out⟩
end Go.Proofs.YtbgoooljkdjjhaaGreatDoor
