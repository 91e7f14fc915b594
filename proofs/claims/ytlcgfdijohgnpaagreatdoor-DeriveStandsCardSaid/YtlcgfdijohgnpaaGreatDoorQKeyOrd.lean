/-
  KeyForm, KeyOrd.
-/
import Derived.Test.YtlcgfdijohgnpaaGreatDoorQKeyLetter
import Derived.Test.YtlcgfdijohgnpaaGreatDoorQValueParse
import Derived.Test.YtlcgfdijohgnpaaGreatDoorQKeyRow
import Derived.Test.YtlcgfdijohgnpaaGreatDoorQValueArg
namespace Go.Proofs.YtlcgfdijohgnpaaGreatDoor
open Go.ChangeShapes Go.WideShapes Go.ChangeAt Go.RowKit

def letterOk (l : List UInt8) : Bool := match l with
 | [] => true
 | [c] => decide (cls c.toNat = 1) && !decide (c = 104)
 | _ => false
theorem letterOk_long {l : List UInt8} (h : 1 < l.length) : letterOk l = false := by
 match l, h with
 | _ :: _ :: _, _ => rfl

set_option maxRecDepth 100000 in
theorem letterMay_any (l : ByteArray) (w : World) (hT : Tab w) (hs : l.size ≤ maxLen) :
  Calls Tryz.prog 123 #[.string l] w fun e w' => e = .returned (.bool (letterOk l.data.toList)) ∧ w = w' := by
 unfold maxLen at hs
 have hl : l.data.toList.length = l.size := by simp
 obtain ⟨r, hr⟩ : ∃ r, letterOk l.data.toList = r := ⟨_, rfl⟩
 rw [hr]
 by_cases h0 : l = ⟨#[]⟩
 ·subst h0
  have HE : Hid (r = true) := Lib.hid (hr.symm.trans rfl)
  clear hl hs hT hr
  go_enter Tryz.func123, Tryz.ntmps123
  go_wp2
  go_ret
  exact ⟨by rw [HE.out]; first | done | rfl, rfl⟩
 have d0 : l.toList.isEmpty = false := emp_false' (fun h => h0 (by rw [← mkB_self l, h]; rfl))
 by_cases h1 : l.size = 1
 ·have hlt : 0 < l.size := by omega
  have q1 : ((l.size : Int) == 1) = true := beq_iff_eq.2 (by omega)
  have hb := byte_le l 0 hlt
  have hbe : l.data.toList = [l[0]] := by
   have := drop_byte l 0 hlt
   rw [List.drop_zero] at this
   rw [this, List.drop_eq_nil_of_le (by rw [hl]; omega)]
  by_cases c1 : cls (l[0].toNat : Int) = 1
  ·have d1 : (cls (l[0].toNat : Int) == 1) = true := beq_iff_eq.2 c1
   have hE : (l.toList == [104]) = decide (l[0] = 104) := by
    rw [toList_eq, hbe]
    by_cases h : l[0] = 104
    ·rw [h]; rfl
    ·rw [decide_eq_false h, beq_eq_false_iff_ne]
     intro hh
     exact h (by simpa using hh)
   have HE : Hid (r = !(l.toList == [104])) := Lib.hid (by rw [hE, ← hr, hbe]; show (decide (cls l[0].toNat = 1) && !decide (l[0] = 104)) = _; rw [decide_eq_true c1, Bool.true_and])
   obtain ⟨q, hq⟩ : ∃ q, (l.toList == [104]) = q := ⟨_, rfl⟩
   rw [hq] at HE
   clear hE hbe c1 h0 hl hr
   go_enter Tryz.func123, Tryz.ntmps123
   go_wp2_with (go_at_call 83; refine (class_any _ _ hT).mono ?_; rintro e w' ⟨rfl, rfl⟩)
   go_ret
   exact ⟨by rw [HE.out]; first | done | rfl, rfl⟩
  ·have d1 : (cls (l[0].toNat : Int) == 1) = false := beq_eq_false_iff_ne.2 c1
   have HE : Hid (r = false) := Lib.hid (by rw [← hr, hbe]; show (decide (cls l[0].toNat = 1) && !decide (l[0] = 104)) = _; rw [decide_eq_false c1, Bool.false_and])
   clear hbe c1 h0 hl hr
   go_enter Tryz.func123, Tryz.ntmps123
   go_wp2_with (go_at_call 83; refine (class_any _ _ hT).mono ?_; rintro e w' ⟨rfl, rfl⟩)
   go_ret
   exact ⟨by rw [HE.out]; first | done | rfl, rfl⟩
 ·have q1 : ((l.size : Int) == 1) = false := beq_eq_false_iff_ne.2 (by omega)
  have h2 : l.size ≠ 0 := fun h => h0 (by rw [← mkB_self l, List.eq_nil_of_length_eq_zero (hl.trans h)]; rfl)
  have HE : Hid (r = false) := Lib.hid (by rw [← hr, letterOk_long (by omega)])
  clear h0 h1 h2 hl hT hr
  go_enter Tryz.func123, Tryz.ntmps123
  go_wp2
  go_ret
  exact ⟨by rw [HE.out]; first | done | rfl, rfl⟩

def numV (k n : Int) : Val := ⟨k, n, ⟨#[]⟩, []⟩
theorem numArg (w : World) (k n : Int) : ArgOk w (numV k n) none 0 := ⟨Txts.nil_ _ _, Nat.le_refl _, by show (0 : Nat) ≤ 4611686018427387904; decide, fun k h => absurd h (by simp [numV]), by show (0 : Nat) ≤ maxLen; decide⟩
set_option maxRecDepth 100000 in
theorem isNumber_any (k n : Int) (w : World) (hT : Tab w) :
  Calls Tryz.prog 142 #[.int .i64 k, .int .i64 n] w fun e w' => e = .returned (.bool (rightV (numV k n))) ∧ Below w.heap.size w w' := by
 have HR := Lib.hid (right_any w (numV k n) none 0 (numArg w k n) hT)
 obtain ⟨r, hr⟩ : ∃ r, rightV (numV k n) = r := ⟨_, rfl⟩
 rw [hr] at HR ⊢
 unfold argV numV at HR
 simp only [List.length_nil] at HR
 clear hr hT
 go_enter Tryz.func142, Tryz.ntmps142
 go_wp2_with fail
 refine HR.out.mono ?_
 rintro e w' ⟨rfl, hb⟩
 have HB := Lib.hid hb
 clear hb
 go_wp2
 go_ret
 exact ⟨rfl, HB.out⟩

def boundsOk (k a b : Int) : Bool :=
 if k = 1 ∨ k = 5 then decide (a = 0) && decide (b = 0)
 else if k = 2 ∨ k = 3 ∨ k = 4 then decide (a ≤ b) && (rightV (numV k a) && rightV (numV k b))
 else if k = 6 then decide (0 ≤ a) && (decide (a ≤ b) && decide (b ≤ 16))
 else false
set_option maxHeartbeats 1600000 in
set_option maxRecDepth 100000 in
theorem kbounds_any (nm dl le : ByteArray) (k a b : Int) (w : World) (hT : Tab w) :
  Calls Tryz.prog 124 #[kAgg ⟨nm, k, dl, a, b, le⟩] w fun e w' => e = .returned (.bool (boundsOk k a b)) ∧ Below w.heap.size w w' := by
 have HT := Lib.hid hT
 have HR : Hid (boundsOk k a b = boundsOk k a b) := Lib.hid rfl
 obtain ⟨r, hr⟩ : ∃ r, boundsOk k a b = r := ⟨_, rfl⟩
 rw [hr]
 replace HR := Lib.hid hr
 unfold kAgg
 clear hT hr
 by_cases h15 : k = 1 ∨ k = 5
 ·have HE : Hid (r = (decide (a = 0) && decide (b = 0))) := Lib.hid (by rw [← HR.out]; unfold boundsOk; rw [if_pos h15])
  have d0 : ((k == 1) || (k == 5)) = true := by rcases h15 with rfl | rfl <;> rfl
  by_cases ha : a = 0
  ·by_cases hb : b = 0
   ·subst ha hb
    rcases h15 with rfl | rfl
    all_goals
     go_enter Tryz.func124, Tryz.ntmps124
     go_wp2
     go_ret
     exact ⟨by rw [HE.out]; first | done | rfl, below_one w _⟩
   ·have d1 : (b == 0) = false := beq_eq_false_iff_ne.2 hb
    have d2 : decide (b = 0) = false := decide_eq_false hb
    rw [d2, Bool.and_false] at HE
    subst ha
    rcases h15 with rfl | rfl
    all_goals
     go_enter Tryz.func124, Tryz.ntmps124
     go_wp2
     go_ret
     exact ⟨by rw [HE.out]; first | done | rfl, below_one w _⟩
  ·have d1 : (a == 0) = false := beq_eq_false_iff_ne.2 ha
   have d2 : decide (a = 0) = false := decide_eq_false ha
   rw [d2, Bool.false_and] at HE
   rcases h15 with rfl | rfl
   all_goals
    go_enter Tryz.func124, Tryz.ntmps124
    go_wp2
    go_ret
    exact ⟨by rw [HE.out]; first | done | rfl, below_one w _⟩
 by_cases h234 : k = 2 ∨ k = 3 ∨ k = 4
 ·have HE : Hid (r = (decide (a ≤ b) && (rightV (numV k a) && rightV (numV k b)))) := Lib.hid (by rw [← HR.out]; unfold boundsOk; rw [if_neg h15, if_pos h234])
  clear HR h15
  have HC : Hid (∀ n w1, Below w.heap.size w w1 → Calls Tryz.prog 142 #[.int .i64 k, .int .i64 n] w1 fun e w' => e = .returned (.bool (rightV (numV k n))) ∧ Below w1.heap.size w1 w') := Lib.hid fun n w1 hb => isNumber_any k n w1 (HT.out.below hb)
  obtain ⟨ra, hra⟩ : ∃ ra, rightV (numV k a) = ra := ⟨_, rfl⟩
  obtain ⟨rb, hrb⟩ : ∃ rb, rightV (numV k b) = rb := ⟨_, rfl⟩
  have HA : Hid (∀ w1, Below w.heap.size w w1 → Calls Tryz.prog 142 #[.int .i64 k, .int .i64 a] w1 fun e w' => e = .returned (.bool ra) ∧ Below w1.heap.size w1 w') := Lib.hid fun w1 hb => by have := HC.out a w1 hb; rw [hra] at this; exact this
  have HB : Hid (∀ w1, Below w.heap.size w w1 → Calls Tryz.prog 142 #[.int .i64 k, .int .i64 b] w1 fun e w' => e = .returned (.bool rb) ∧ Below w1.heap.size w1 w') := Lib.hid fun w1 hb => by have := HC.out b w1 hb; rw [hrb] at this; exact this
  rw [hra, hrb] at HE
  clear HC hra hrb HT
  have h0 : Hid (∀ o, Below w.heap.size w (w.alloc o)) := Lib.hid (below_one w)
  by_cases hab : a ≤ b
  ·rw [decide_eq_true hab, Bool.true_and] at HE
   cases ra with
   | false =>
    rw [Bool.false_and] at HE
    rcases h234 with rfl | rfl | rfl
    all_goals
     go_enter Tryz.func124, Tryz.ntmps124
     go_wp2_with fail
     refine (HA.out _ (h0.out _)).mono ?_
     rintro e w1 ⟨rfl, hb1⟩
     have HB1 := Lib.hid ((h0.out _).trans (hb1.mono (h0.out _).size))
     clear hb1
     go_wp2
     go_ret
     exact ⟨by rw [HE.out]; first | done | rfl, HB1.out⟩
   | true =>
    rw [Bool.true_and] at HE
    rcases h234 with rfl | rfl | rfl
    all_goals
     go_enter Tryz.func124, Tryz.ntmps124
     go_wp2_with fail
     refine (HA.out _ (h0.out _)).mono ?_
     rintro e w1 ⟨rfl, hb1⟩
     obtain ⟨c0, c1, c2, c3, c4, c5, _⟩ := (box6_new w ⟨nm, _, dl, a, b, le⟩ _).below hb1
     simp only at c0 c1 c2 c3 c4 c5
     have HB1 := Lib.hid ((h0.out _).trans (hb1.mono (h0.out _).size))
     clear hb1
     go_wp2_with fail
     refine (HB.out _ HB1.out).mono ?_
     rintro e w2 ⟨rfl, hb2⟩
     have HB2 := Lib.hid (HB1.out.trans (hb2.mono HB1.out.size))
     clear hb2
     go_wp2
     go_ret
     exact ⟨by rw [HE.out]; first | done | rfl, HB2.out⟩
  ·rw [decide_eq_false hab, Bool.false_and] at HE
   rcases h234 with rfl | rfl | rfl
   all_goals
    go_enter Tryz.func124, Tryz.ntmps124
    go_wp2
    go_ret
    exact ⟨by rw [HE.out]; first | done | rfl, h0.out _⟩
 by_cases h6 : k = 6
 ·have HE : Hid (r = (decide (0 ≤ a) && (decide (a ≤ b) && decide (b ≤ 16)))) := Lib.hid (by rw [← HR.out]; unfold boundsOk; rw [if_neg h15, if_neg h234, if_pos h6])
  subst h6
  clear HR h15 h234
  by_cases h0 : 0 ≤ a
  ·rw [decide_eq_true h0, Bool.true_and] at HE
   by_cases h1 : a ≤ b
   ·rw [decide_eq_true h1, Bool.true_and] at HE
    go_enter Tryz.func124, Tryz.ntmps124
    go_wp2
    go_ret
    exact ⟨by rw [HE.out]; first | done | rfl, below_one w _⟩
   ·rw [decide_eq_false h1, Bool.false_and] at HE
    go_enter Tryz.func124, Tryz.ntmps124
    go_wp2
    go_ret
    exact ⟨by rw [HE.out]; first | done | rfl, below_one w _⟩
  ·rw [decide_eq_false h0, Bool.false_and] at HE
   go_enter Tryz.func124, Tryz.ntmps124
   go_wp2
   go_ret
   exact ⟨by rw [HE.out]; first | done | rfl, below_one w _⟩
 ·have HE : Hid (r = false) := Lib.hid (by rw [← HR.out]; unfold boundsOk; rw [if_neg h15, if_neg h234, if_neg h6])
  have e1 : (k == 1) = false := beq_eq_false_iff_ne.2 (fun h => h15 (Or.inl h))
  have e5 : (k == 5) = false := beq_eq_false_iff_ne.2 (fun h => h15 (Or.inr h))
  have e2 : (k == 2) = false := beq_eq_false_iff_ne.2 (fun h => h234 (Or.inl h))
  have e3 : (k == 3) = false := beq_eq_false_iff_ne.2 (fun h => h234 (Or.inr (Or.inl h)))
  have e4 : (k == 4) = false := beq_eq_false_iff_ne.2 (fun h => h234 (Or.inr (Or.inr h)))
  have e6 : (k == 6) = false := beq_eq_false_iff_ne.2 h6
  clear HR h15 h234 h6
  go_enter Tryz.func124, Tryz.ntmps124
  go_wp2
  go_ret
  exact ⟨by rw [HE.out]; first | done | rfl, below_one w _⟩

def formK (k : KeyV) : Bool := nameB k.name.data.toList && (letterOk k.letter.data.toList && boundsOk k.kind k.least k.most)
set_option maxHeartbeats 1600000 in
set_option maxRecDepth 100000 in
theorem hasForm_any (k : KeyV) (w : World) (hT : Tab w) (h1 : k.name.size ≤ maxLen) (h2 : k.letter.size ≤ maxLen) :
  Calls Tryz.prog 89 #[kAgg k] w fun e w' => e = .returned (.bool (formK k)) ∧ Below w.heap.size w w' := by
 obtain ⟨nm, kd, dl, a, b, le⟩ := k
 have HW : Hid (∀ o, Below w.heap.size w (w.alloc o)) := Lib.hid (below_one w)
 have HA : Hid (∀ o, Calls Tryz.prog 55 #[.string nm] (w.alloc o) fun e w' => e = .returned (.bool (nameB nm.data.toList)) ∧ w.alloc o = w') := Lib.hid fun o => isName_any nm _ (hT.below (below_one w o)) h1
 have HB : Hid (∀ o, Calls Tryz.prog 123 #[.string le] (w.alloc o) fun e w' => e = .returned (.bool (letterOk le.data.toList)) ∧ w.alloc o = w') := Lib.hid fun o => letterMay_any le _ (hT.below (below_one w o)) h2
 have HC : Hid (∀ o, Calls Tryz.prog 124 #[kAgg ⟨nm, kd, dl, a, b, le⟩] (w.alloc o) fun e w' => e = .returned (.bool (boundsOk kd a b)) ∧ Below (w.alloc o).heap.size (w.alloc o) w') := Lib.hid fun o => kbounds_any nm dl le kd a b _ (hT.below (below_one w o))
 have HD : Hid (formK ⟨nm, kd, dl, a, b, le⟩ = (nameB nm.data.toList && (letterOk le.data.toList && boundsOk kd a b))) := Lib.hid rfl
 obtain ⟨ra, hra⟩ : ∃ ra, nameB nm.data.toList = ra := ⟨_, rfl⟩
 obtain ⟨rb, hrb⟩ : ∃ rb, letterOk le.data.toList = rb := ⟨_, rfl⟩
 obtain ⟨rc, hrc⟩ : ∃ rc, boundsOk kd a b = rc := ⟨_, rfl⟩
 rw [hra] at HA HD
 rw [hrb] at HB HD
 rw [hrc] at HC HD
 obtain ⟨r, hr⟩ : ∃ r, formK ⟨nm, kd, dl, a, b, le⟩ = r := ⟨_, rfl⟩
 rw [hr] at HD ⊢
 unfold kAgg at HC ⊢
 simp only at h1 h2 HC ⊢
 clear hT h1 h2 hra hrb hrc hr
 cases ra with
 | false =>
  go_enter Tryz.func89, Tryz.ntmps89
  go_wp2_with fail
  refine (HA.out _).mono ?_
  rintro e w' ⟨rfl, rfl⟩
  go_wp2
  go_ret
  exact ⟨by rw [HD.out]; first | done | rfl, HW.out _⟩
 | true =>
  cases rb with
  | false =>
   go_enter Tryz.func89, Tryz.ntmps89
   go_wp2_with fail
   refine (HA.out _).mono ?_
   rintro e w' ⟨rfl, rfl⟩
   go_wp2_with fail
   refine (HB.out _).mono ?_
   rintro e w' ⟨rfl, rfl⟩
   go_wp2
   go_ret
   exact ⟨by rw [HD.out]; first | done | rfl, HW.out _⟩
  | true =>
   go_enter Tryz.func89, Tryz.ntmps89
   go_wp2_with fail
   refine (HA.out _).mono ?_
   rintro e w' ⟨rfl, rfl⟩
   go_wp2_with fail
   refine (HB.out _).mono ?_
   rintro e w' ⟨rfl, rfl⟩
   go_wp2_with fail
   refine (HC.out _).mono ?_
   rintro e w' ⟨rfl, hb⟩
   have H := Lib.hid ((HW.out _).trans (hb.mono (HW.out _).size))
   clear hb
   go_wp2
   go_ret
   exact ⟨by rw [HD.out]; first | done | rfl, H.out⟩
end Go.Proofs.YtlcgfdijohgnpaaGreatDoor

namespace Go.Proofs.YtlcgfdijohgnpaaGreatDoor

theorem cmp_refl : ∀ a : List UInt8, Lib.compareBytes a a = 0
 | [] => rfl
 | x :: a => by unfold Lib.compareBytes; rw [if_neg (UInt8.lt_irrefl x), if_neg (UInt8.lt_irrefl x)]; exact cmp_refl a
theorem cmp_eq0 : ∀ a b : List UInt8, Lib.compareBytes a b = 0 → a = b
 | [], [], _ => rfl
 | [], _ :: _, h => by simp [Lib.compareBytes] at h
 | _ :: _, [], h => by simp [Lib.compareBytes] at h
 | x :: a, y :: b, h => by
  unfold Lib.compareBytes at h
  split at h
  ·exact absurd h (by decide)
  ·rename_i h1
   split at h
   ·exact absurd h (by decide)
   ·rename_i h2
    have e : x = y := UInt8.le_antisymm (UInt8.not_lt.1 h2) (UInt8.not_lt.1 h1)
    rw [e, cmp_eq0 a b h]
theorem cmp_anti : ∀ a b : List UInt8, Lib.compareBytes b a = - Lib.compareBytes a b
 | [], [] => rfl
 | [], _ :: _ => rfl
 | _ :: _, [] => rfl
 | x :: a, y :: b => by
  unfold Lib.compareBytes
  by_cases h1 : x < y
  ·rw [if_pos h1, if_neg (fun h => UInt8.lt_irrefl x (UInt8.lt_trans h1 h)), if_pos h1]; rfl
  ·by_cases h2 : y < x
   ·rw [if_pos h2, if_neg h1, if_pos h2]
   ·rw [if_neg h2, if_neg h1, if_neg h1, if_neg h2]; exact cmp_anti a b
theorem cmp_trans : ∀ a b c : List UInt8, Lib.compareBytes a b < 0 → Lib.compareBytes b c < 0 → Lib.compareBytes a c < 0
 | [], [], _, h, _ => absurd h (by simp [Lib.compareBytes])
 | [], _ :: _, [], _, h => absurd h (by simp [Lib.compareBytes])
 | [], _ :: _, _ :: _, _, _ => by simp [Lib.compareBytes]
 | _ :: _, [], _, h, _ => absurd h (by simp [Lib.compareBytes])
 | _ :: _, _ :: _, [], _, h => absurd h (by simp [Lib.compareBytes])
 | x :: a, y :: b, z :: c, h, k => by
  unfold Lib.compareBytes at h k ⊢
  by_cases h1 : x < y
  ·by_cases k1 : y < z
   ·rw [if_pos (UInt8.lt_trans h1 k1)]; decide
   ·rw [if_neg k1] at k
    by_cases k2 : z < y
    ·rw [if_pos k2] at k; exact absurd k (by decide)
    ·have e : y = z := UInt8.le_antisymm (UInt8.not_lt.1 k2) (UInt8.not_lt.1 k1)
     rw [← e, if_pos h1]; decide
  ·rw [if_neg h1] at h
   by_cases h2 : y < x
   ·rw [if_pos h2] at h; exact absurd h (by decide)
   ·have e : x = y := UInt8.le_antisymm (UInt8.not_lt.1 h2) (UInt8.not_lt.1 h1)
    rw [if_neg h2] at h
    rw [e]
    by_cases k1 : y < z
    ·rw [if_pos k1]; decide
    ·rw [if_neg k1] at k ⊢
     by_cases k2 : z < y
     ·rw [if_pos k2] at k; exact absurd k (by decide)
     ·rw [if_neg k2] at k ⊢
      exact cmp_trans a b c h k
theorem cmpB_eq {a b : ByteArray} (h : cmpB a b = 0) : a = b := by
 have := cmp_eq0 _ _ h
 rw [← mkB_self a, this, mkB_self]
theorem cmpB_refl (a : ByteArray) : cmpB a a = 0 := cmp_refl _
theorem cmpB_anti (a b : ByteArray) : cmpB b a = - cmpB a b := cmp_anti _ _
theorem cmpB_trans {a b c : ByteArray} (h : cmpB a b < 0) (k : cmpB b c < 0) : cmpB a c < 0 := cmp_trans _ _ _ h k

def Sorted (xs : List KeyV) : Prop := ∀ a b (hb : b < xs.length) (h : a < b), cmpB (xs[a]'(Nat.lt_trans h hb)).name xs[b].name < 0
theorem Sorted.mono {xs : List KeyV} (h : Sorted xs) (nm : ByteArray) : Mono xs nm := fun a b hab hb hc => by
 rcases Nat.lt_or_ge a b with h1 | h1
 ·rw [cmpAt_of hb] at hc
  rw [cmpAt_of (Nat.lt_trans h1 hb)]
  exact cmpB_trans (h a b hb h1) hc
 ·have e : a = b := by omega
  rw [e]; exact hc
theorem place_one {xs : List KeyV} {nm : ByteArray} {i j : Nat} (h : PlaceIs xs nm i) (k : PlaceIs xs nm j) : i = j := by
 obtain ⟨h0, h1, h2⟩ := h
 obtain ⟨k0, k1, k2⟩ := k
 rcases Nat.lt_trichotomy i j with h | h | h
 ·have := k1 i h; have := h2 i (Nat.le_refl _) (by omega); omega
 ·exact h
 ·have := h1 j h; have := k2 j (Nat.le_refl _) (by omega); omega
def posK (xs : List KeyV) (nm : ByteArray) : Nat := (xs.takeWhile fun q => decide (cmpB q.name nm < 0)).length
theorem tw_lt {α : Type} (p : α → Bool) : ∀ (xs : List α) (t : Nat), t < (xs.takeWhile p).length → ∃ h2 : t < xs.length, p xs[t] = true := by
 intro xs
 induction xs with
 | nil => intro t h; simp at h
 | cons x xs ih =>
  intro t h
  rw [List.takeWhile_cons] at h
  split at h
  ·rename_i hx
   cases t with
   | zero => exact ⟨by simp, hx⟩
   | succ t =>
    obtain ⟨h2, h3⟩ := ih t (by simpa using h)
    exact ⟨by simpa using h2, by simpa using h3⟩
  ·simp at h
theorem tw_at {α : Type} (p : α → Bool) : ∀ (xs : List α) (h : (xs.takeWhile p).length < xs.length), p xs[(xs.takeWhile p).length] = false := by
 intro xs
 induction xs with
 | nil => intro h; simp at h
 | cons x xs ih =>
  intro h
  by_cases hx : p x = true
  ·have e : ((x :: xs).takeWhile p).length = (xs.takeWhile p).length + 1 := by rw [List.takeWhile_cons, if_pos hx]; rfl
   have h2 : (xs.takeWhile p).length < xs.length := by rw [e] at h; simpa using h
   have := ih h2
   simp only [e, List.getElem_cons_succ]; exact this
  ·have e : ((x :: xs).takeWhile p).length = 0 := by rw [List.takeWhile_cons, if_neg hx]; rfl
   simp only [e, List.getElem_cons_zero]; simpa using hx
theorem tw_le {α : Type} (p : α → Bool) (xs : List α) : (xs.takeWhile p).length ≤ xs.length := (List.takeWhile_sublist p).length_le
theorem posK_is {xs : List KeyV} {nm : ByteArray} (hm : Mono xs nm) : PlaceIs xs nm (posK xs nm) := by
 refine ⟨tw_le _ _, fun t ht => ?_, fun t h1 h2 => ?_⟩
 ·obtain ⟨h3, h4⟩ := tw_lt _ xs t ht
  rw [cmpAt_of h3]; simpa using h4
 ·rcases Int.lt_or_le (cmpAt xs nm t) 0 with h | h
  ·have h3 : posK xs nm < xs.length := Nat.lt_of_le_of_lt h1 h2
   have h4 := hm _ _ h1 h2 h
   have h5 := tw_at _ xs h3
   rw [cmpAt_of h3] at h4
   have h6 : decide (cmpB (xs[posK xs nm]'h3).name nm < 0) = false := h5
   rw [decide_eq_true h4] at h6; cases h6
  ·exact h
def hasK (xs : List KeyV) (nm : ByteArray) : Bool := xs.any fun q => decide (q.name = nm)
theorem found_is {xs : List KeyV} {nm : ByteArray} {i : Nat} (hs : Sorted xs) (h : PlaceIs xs nm i) : (decide (i < xs.length) && decide (cmpAt xs nm i = 0)) = hasK xs nm := by
 rw [Bool.eq_iff_iff]
 unfold hasK
 simp only [Bool.and_eq_true, decide_eq_true_eq, List.any_eq_true]
 constructor
 ·rintro ⟨h1, h2⟩
  rw [cmpAt_of h1] at h2
  exact ⟨_, List.getElem_mem h1, cmpB_eq h2⟩
 ·rintro ⟨q, hq, e⟩
  obtain ⟨t, ht, rfl⟩ := List.getElem_of_mem hq
  have hz : cmpAt xs nm t = 0 := by rw [cmpAt_of ht, e]; exact cmpB_refl _
  have hit : i ≤ t := by
   rcases Nat.lt_or_ge t i with h3 | h3
   ·have := h.2.1 t h3; omega
   ·exact h3
  have hi : i < xs.length := by omega
  refine ⟨hi, ?_⟩
  rcases Nat.lt_or_ge i t with h3 | h3
  ·have h4 := hs i t ht h3
   rw [e] at h4
   have := h.2.2 i (Nat.le_refl _) hi
   rw [cmpAt_of hi] at this
   omega
  ·have : i = t := by omega
   rw [this]; exact hz
theorem ins_sorted {xs : List KeyV} {k : KeyV} {i : Nat} (hs : Sorted xs) (h : PlaceIs xs k.name i) (hn : hasK xs k.name = false) : Sorted ((xs.take i ++ k :: xs.drop i)) := by
 have hne : ∀ t (ht : t < xs.length), i ≤ t → cmpB k.name xs[t].name < 0 := fun t ht hit => by
  have h1 := h.2.2 t hit ht
  rw [cmpAt_of ht] at h1
  have h2 : cmpB xs[t].name k.name ≠ 0 := fun h0 => by
   have : hasK xs k.name = true := List.any_eq_true.2 ⟨_, List.getElem_mem ht, by rw [decide_eq_true_eq]; exact cmpB_eq h0⟩
   rw [hn] at this; cases this
  rw [cmpB_anti]; omega
 have hi := h.1
 have hlen : ((xs.take i ++ k :: xs.drop i)).length = xs.length + 1 := by simp; omega
 have g1 : ∀ t (ht : t < ((xs.take i ++ k :: xs.drop i)).length), t < i → ∃ h2 : t < xs.length, ((xs.take i ++ k :: xs.drop i))[t] = xs[t] := fun t ht h1 => ⟨by omega, by
  rw [List.getElem_append_left (by simp; omega), List.getElem_take]⟩
 have g2 : ∀ (ht : i < ((xs.take i ++ k :: xs.drop i)).length), ((xs.take i ++ k :: xs.drop i))[i] = k := fun ht => by
  rw [List.getElem_append_right (by simp; omega)]; simp [Nat.min_eq_left hi]
 have g3 : ∀ t (ht : t < ((xs.take i ++ k :: xs.drop i)).length), i < t → ∃ h2 : t - 1 < xs.length, ((xs.take i ++ k :: xs.drop i))[t] = xs[t - 1] := fun t ht h1 => ⟨by omega, by
  rw [List.getElem_append_right (by simp; omega)]
  simp only [List.length_take, Nat.min_eq_left hi]
  rw [List.getElem_cons, dif_neg (by omega), List.getElem_drop]
  congr 1; omega⟩
 intro a b hb hab
 have ha : a < ((xs.take i ++ k :: xs.drop i)).length := Nat.lt_trans hab hb
 rcases Nat.lt_trichotomy b i with hbi | hbi | hbi
 ·obtain ⟨h2, e2⟩ := g1 b hb hbi
  obtain ⟨h1, e1⟩ := g1 a ha (by omega)
  rw [e1, e2]; exact hs a b h2 hab
 ·subst hbi
  obtain ⟨h1, e1⟩ := g1 a ha hab
  rw [e1, g2 hb]
  have := h.2.1 a hab
  rw [cmpAt_of h1] at this; exact this
 ·obtain ⟨h2, e2⟩ := g3 b hb hbi
  rw [e2]
  rcases Nat.lt_trichotomy a i with hai | hai | hai
  ·obtain ⟨h1, e1⟩ := g1 a ha hai
   rw [e1]; exact hs a (b - 1) h2 (by omega)
  ·subst hai
   rw [g2 ha]; exact hne _ h2 (by omega)
  ·obtain ⟨h1, e1⟩ := g3 a ha hai
   rw [e1]; exact hs (a - 1) (b - 1) h2 (by omega)

def dfltK (k : KeyV) : Bool := decide ((parseV k.kind k.dflt).2 = 0) && withinV (parseV k.kind k.dflt).1 k.least k.most
def addE (xs : List KeyV) (k : KeyV) : Int :=
 if formK k = false then 50 else if dfltK k = false then 53 else if hasK xs k.name = true then 51 else if (letterK xs k.letter).isSome = true then 52 else if 64 ≤ xs.length then 54 else 0
def addK (xs : List KeyV) (k : KeyV) : List KeyV := if addE xs k = 0 then insK xs (posK xs k.name) k else xs
theorem addK_len (xs : List KeyV) (k : KeyV) (h : xs.length ≤ 64) : (addK xs k).length ≤ 64 := by
 unfold addK
 split
 ·rename_i h0
  have h1 : ¬ 64 ≤ xs.length := fun h2 => by
   unfold addE at h0
   rw [if_pos h2] at h0
   repeat' split at h0
   all_goals exact absurd h0 (by decide)
  have : (insK xs (posK xs k.name) k).length = xs.length + 1 := by
   have := tw_le (fun q => decide (cmpB q.name k.name < 0)) xs
   unfold insK posK; simp; omega
  omega
 ·exact h
theorem addK_sorted {xs : List KeyV} (k : KeyV) (h : Sorted xs) : Sorted (addK xs k) := by
 unfold addK
 split
 ·rename_i h0
  have hn : hasK xs k.name = false := by
   cases hh : hasK xs k.name with
   | false => rfl
   | true =>
    unfold addE at h0
    rw [if_pos hh] at h0
    repeat' split at h0
    all_goals exact absurd h0 (by decide)
  exact ins_sorted h (posK_is (h.mono _)) hn
 ·exact h
end Go.Proofs.YtlcgfdijohgnpaaGreatDoor
