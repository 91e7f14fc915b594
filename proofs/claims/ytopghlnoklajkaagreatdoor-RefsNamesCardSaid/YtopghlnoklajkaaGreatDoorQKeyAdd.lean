/-
  ValueLists, KeyLetter, KeyForm, KeyRow, KeyOrd, KeyAdd.
-/
import Derived.Test.YtopghlnoklajkaaGreatDoorQValuePrint
import Derived.Test.YtopghlnoklajkaaGreatDoorQValueSame
import Derived.Deep.RegionHeld3
import Derived.Test.YtopghlnoklajkaaGreatDoorQKeyFind
import Derived.Test.YtopghlnoklajkaaGreatDoorQValueRight
import Derived.Test.YtopghlnoklajkaaGreatDoorQValueParse
import Derived.Test.YtopghlnoklajkaaGreatDoorQRowOps
import Derived.OwnWalk
import Derived.Lib.AppendZerosOnto
import Derived.Test.YtopghlnoklajkaaGreatDoorQValueArg
import Derived.Test.YtopghlnoklajkaaGreatDoorQValueAll
namespace Go.Proofs.YtopghlnoklajkaaGreatDoor
open Go.ChangeShapes Go.WideShapes Go.ChangeAt Go.RowKit

theorem list_take {xs ys : List ByteArray} {j : Nat} (h1 : j < xs.length) (h2 : j < ys.length) (hp : xs.take j = ys.take j) :
    (¬ xs[j] = ys[j] → decide (xs = ys) = false) ∧ (xs[j] = ys[j] → xs.take (j + 1) = ys.take (j + 1)) := by
  refine ⟨fun hn => decide_eq_false (fun e => hn (by subst e; rfl)), fun he => ?_⟩
  rw [List.take_succ_eq_append_getElem h1, List.take_succ_eq_append_getElem h2, hp, he]

end Go.Proofs.YtopghlnoklajkaaGreatDoor

namespace Go.Proofs.YtopghlnoklajkaaGreatDoor
open Go.ChangeShapes Go.WideShapes Go.ChangeAt Go.RowKit

/-- The definition of a letter; of the empty one none. -/
def letterB (l : ByteArray) (k : KeyV) : Bool := !decide (k.letter = ⟨#[]⟩) && decide (k.letter = l)
def letterK (xs : List KeyV) (l : ByteArray) : Option KeyV := xs.find? (letterB l)
theorem letter_drop {xs : List KeyV} {l : ByteArray} {t : Nat} (h : t < xs.length) : letterK (xs.drop t) l = if letterB l xs[t] then some xs[t] else letterK (xs.drop (t + 1)) l := by
  unfold letterK
  rw [List.drop_eq_getElem_cons h, List.find?_cons]
  cases letterB l xs[t] <;> rfl
def oAgg (r : Option KeyV) : Value := .tuple #[kAgg (r.getD kZero), .bool r.isSome]

set_option maxHeartbeats 1600000 in
set_option maxRecDepth 100000 in
theorem letter_any (xs : List KeyV) (l : ByteArray) (S : Nat) (x : Option Addr) (c : Nat) (w : World) (h : SetAt w S x c xs) (hn : xs.length ≤ 1000000) :
    Calls Tryz.prog 61 #[.pointer (some ⟨S, 0, none⟩), .string l] w fun e w' => e = .returned (oAgg (letterK xs l)) ∧ Below w.heap.size w w' := by
  have HS := Lib.hid h
  have c0 : ∀ t, (w.alloc (Obj.cells #[.string ⟨#[]⟩, .int .i64 0, .string ⟨#[]⟩, .int .i64 0, .int .i64 0, .string ⟨#[]⟩] t)).cell? ⟨S, 0, none⟩ = some (.slice x xs.length c) := fun t => (h.below (below_one w _)).cell
  have HZ : Hid (∀ t, Box6 (w.alloc (Obj.cells #[.string ⟨#[]⟩, .int .i64 0, .string ⟨#[]⟩, .int .i64 0, .int .i64 0, .string ⟨#[]⟩] t)) w.heap.size kZero ∧ Below w.heap.size w (w.alloc (Obj.cells #[.string ⟨#[]⟩, .int .i64 0, .string ⟨#[]⟩, .int .i64 0, .int .i64 0, .string ⟨#[]⟩] t))) := Lib.hid fun t => ⟨box6_new w kZero t, below_one w _⟩
  have HD : Hid (letterK (xs.drop 0) l = letterK xs l) := Lib.hid rfl
  obtain ⟨r, hr⟩ : ∃ r, letterK xs l = r := ⟨_, rfl⟩
  rw [hr] at HD ⊢
  obtain ⟨n, hn'⟩ : ∃ n, xs.length = n := ⟨_, rfl⟩
  have HN := Lib.hid hn'
  rw [hn'] at hn c0
  clear h hr hn'
  go_enter Tryz.func61, Tryz.ntmps61
  go_wp2
  go_loopw [13, 7] (fun i _ wr => ∃ t : Nat, i = .int .i64 t ∧ t ≤ n ∧ Hid (Below w.heap.size w wr ∧ Box6 wr w.heap.size kZero ∧ letterK (xs.drop t) l = r)) (fun i _ _ => n - (intOf i).toNat)
  case atStart => exact ⟨0, rfl, by omega, Lib.hid ⟨(HZ.out _).2, (HZ.out _).1, HD.out⟩⟩
  case round =>
    clear HD HZ c0
    obtain ⟨t, rfl, ht, HK⟩ := hrel
    by_cases hlt : t < n
    · have htx : t < xs.length := by rw [HN.out]; exact hlt
      obtain ⟨b, hxe, hbl, c0, c1, c2, c3, c4, c5⟩ := (HS.out.keys.below HK.out.1) t htx
      have hd := letter_drop (l := l) htx
      generalize xs[t] = k at c0 c1 c2 c3 c4 c5 hd
      obtain ⟨kn, kk, kd, kl, km, kt⟩ := k
      simp only at c0 c1 c2 c3 c4 c5
      have HE := Lib.hid (HK.out.2.2.symm.trans hd)
      have q1 : (0 : Int) ≤ t := by omega
      have q2 : (t : Int) < n := by omega
      subst hxe
      clear hd htx
      have HB6 : Hid (∀ p, Below w.heap.size w (wr.alloc (Obj.cells #[.string kn, .int .i64 kk, .string kd, .int .i64 kl, .int .i64 km, .string kt] p)) ∧ Box6 (wr.alloc (Obj.cells #[.string kn, .int .i64 kk, .string kd, .int .i64 kl, .int .i64 km, .string kt] p)) w.heap.size kZero) := Lib.hid fun p => ⟨HK.out.1.trans ((below_one wr _).mono HK.out.1.size), HK.out.2.1.below (below_one wr _)⟩
      by_cases he : kt = ⟨#[]⟩
      · have HN2 : Hid (letterK (xs.drop (t + 1)) l = r) := Lib.hid (by
          have h1 := HE.out
          rw [show letterB l ⟨kn, kk, kd, kl, km, kt⟩ = false by unfold letterB; rw [decide_eq_true he]; rfl] at h1
          exact h1.symm)
        subst he
        clear HE
        go_wp2
        go_roundw
        case rel => exact ⟨t + 1, by go_num, by omega, Lib.hid ⟨(HB6.out _).1, (HB6.out _).2, HN2.out⟩⟩
        case measure => simp [intOf]; omega
      have d1 : kt.toList.isEmpty = false := emp_false' (fun h => he (by rw [← mkB_self kt, h]; rfl))
      by_cases hl : kt = l
      · have HR : Hid (r = some ⟨kn, kk, kd, kl, km, kt⟩) := Lib.hid (by
          have h1 := HE.out
          rw [show letterB l ⟨kn, kk, kd, kl, km, kt⟩ = true by unfold letterB; rw [decide_eq_false he, decide_eq_true hl]; rfl] at h1
          exact h1)
        subst hl
        clear HE he
        have HS6 : Hid (∀ p, Box6 (set6 (wr.alloc (Obj.cells #[.string kn, .int .i64 kk, .string kd, .int .i64 kl, .int .i64 km, .string kt] p)) w.heap.size ⟨kn, kk, kd, kl, km, kt⟩) w.heap.size ⟨kn, kk, kd, kl, km, kt⟩ ∧ Below w.heap.size w (set6 (wr.alloc (Obj.cells #[.string kn, .int .i64 kk, .string kd, .int .i64 kl, .int .i64 km, .string kt] p)) w.heap.size ⟨kn, kk, kd, kl, km, kt⟩)) := Lib.hid fun p => ⟨(HB6.out p).2.set6 _, below_set6 (HB6.out p).1 (Nat.le_refl _) _⟩
        obtain ⟨b0, b1, b2, b3, b4, b5, bf⟩ := (HB6.out 73).2
        have f0 := bf 0 (by decide)
        have f1 := bf 1 (by decide)
        have f2 := bf 2 (by decide)
        have f3 := bf 3 (by decide)
        have f4 := bf 4 (by decide)
        have f5 := bf 5 (by decide)
        obtain ⟨g0, g1, g2, g3, g4, g5, _⟩ := (HS6.out 73).1
        have HF := Lib.hid (HS6.out 73).2
        unfold set6 at g0 g1 g2 g3 g4 g5 HF
        simp only at g0 g1 g2 g3 g4 g5 HF
        clear bf HS6 HB6
        go_wp2
        exact bodyPost_ret (v := .tuple #[.agg #[.string kn, .int .i64 kk, .string kd, .int .i64 kl, .int .i64 km, .string kt], .bool true]) (by simp [results, Tryz.results61, go_sem, g0, g1, g2, g3, g4, g5]) rfl ⟨ret_val (by rw [HR.out]; rfl), HF.out⟩
      · have HN2 : Hid (letterK (xs.drop (t + 1)) l = r) := Lib.hid (by
          have h1 := HE.out
          rw [show letterB l ⟨kn, kk, kd, kl, km, kt⟩ = false by unfold letterB; rw [decide_eq_false hl, Bool.and_false]] at h1
          exact h1.symm)
        have d3 : (kt.toList == l.toList) = false := beq_eq_false_iff_ne.2 (fun h => hl (toList_inj h))
        clear HE he hl
        go_wp2
        go_roundw
        case rel => exact ⟨t + 1, by go_num, by omega, Lib.hid ⟨(HB6.out _).1, (HB6.out _).2, HN2.out⟩⟩
        case measure => simp [intOf]; omega
    · have HR : Hid (r = none) := Lib.hid (by
        have h1 := HK.out.2.2
        rw [List.drop_eq_nil_of_le (by rw [HN.out]; omega)] at h1
        exact h1.symm)
      have q2 : ¬ (t : Int) < n := by omega
      have HS6 : Hid (Box6 (set6 wr w.heap.size kZero) w.heap.size kZero ∧ Below w.heap.size w (set6 wr w.heap.size kZero)) := Lib.hid ⟨HK.out.2.1.set6 _, below_set6 HK.out.1 (Nat.le_refl _) _⟩
      obtain ⟨b0, b1, b2, b3, b4, b5, bf⟩ := HK.out.2.1
      have f0 := bf 0 (by decide)
      have f1 := bf 1 (by decide)
      have f2 := bf 2 (by decide)
      have f3 := bf 3 (by decide)
      have f4 := bf 4 (by decide)
      have f5 := bf 5 (by decide)
      obtain ⟨g0, g1, g2, g3, g4, g5, _⟩ := HS6.out.1
      have HF := Lib.hid HS6.out.2
      unfold kZero at b0 b1 b2 b3 b4 b5
      unfold set6 kZero at g0 g1 g2 g3 g4 g5 HF
      simp only at b0 b1 b2 b3 b4 b5 g0 g1 g2 g3 g4 g5 HF
      clear bf HS6
      go_wp2
      exact bodyPost_ret (v := .tuple #[.agg #[.string ⟨#[]⟩, .int .i64 0, .string ⟨#[]⟩, .int .i64 0, .int .i64 0, .string ⟨#[]⟩], .bool false]) (by simp [results, Tryz.results61, go_sem, g0, g1, g2, g3, g4, g5]) rfl ⟨ret_val (by rw [HR.out]; rfl), HF.out⟩
end Go.Proofs.YtopghlnoklajkaaGreatDoor

namespace Go.Proofs.YtopghlnoklajkaaGreatDoor
open Go.ChangeShapes Go.WideShapes Go.ChangeAt Go.RowKit

/-- May that be a letter of a definition? -/
def letterOk (l : List UInt8) : Bool := match l with
  | [] => true
  | [c] => decide (cls c.toNat = 1) && !decide (c = 104)
  | _ => false
theorem letterOk_long {l : List UInt8} (h : 1 < l.length) : letterOk l = false := by
  match l, h with
  | _ :: _ :: _, _ => rfl

set_option maxRecDepth 100000 in
theorem letterMay_any (l : ByteArray) (w : World) (hT : Tab w) (hs : l.size ≤ maxLen) :
    Calls Tryz.prog 97 #[.string l] w fun e w' => e = .returned (.bool (letterOk l.data.toList)) ∧ w = w' := by
  unfold maxLen at hs
  have hl : l.data.toList.length = l.size := by simp
  obtain ⟨r, hr⟩ : ∃ r, letterOk l.data.toList = r := ⟨_, rfl⟩
  rw [hr]
  by_cases h0 : l = ⟨#[]⟩
  · subst h0
    have HE : Hid (r = true) := Lib.hid (hr.symm.trans rfl)
    clear hl hs hT hr
    go_enter Tryz.func97, Tryz.ntmps97
    go_wp2
    go_ret
    exact ⟨by rw [HE.out]; first | done | rfl, rfl⟩
  have d0 : l.toList.isEmpty = false := emp_false' (fun h => h0 (by rw [← mkB_self l, h]; rfl))
  by_cases h1 : l.size = 1
  · have hlt : 0 < l.size := by omega
    have q1 : ((l.size : Int) == 1) = true := beq_iff_eq.2 (by omega)
    have hb := byte_le l 0 hlt
    have hbe : l.data.toList = [l[0]] := by
      have := drop_byte l 0 hlt
      rw [List.drop_zero] at this
      rw [this, List.drop_eq_nil_of_le (by rw [hl]; omega)]
    by_cases c1 : cls (l[0].toNat : Int) = 1
    · have d1 : (cls (l[0].toNat : Int) == 1) = true := beq_iff_eq.2 c1
      have hE : (l.toList == [104]) = decide (l[0] = 104) := by
        rw [toList_eq, hbe]
        by_cases h : l[0] = 104
        · rw [h]; rfl
        · rw [decide_eq_false h, beq_eq_false_iff_ne]
          intro hh
          exact h (by simpa using hh)
      have HE : Hid (r = !(l.toList == [104])) := Lib.hid (by rw [hE, ← hr, hbe]; show (decide (cls l[0].toNat = 1) && !decide (l[0] = 104)) = _; rw [decide_eq_true c1, Bool.true_and])
      obtain ⟨q, hq⟩ : ∃ q, (l.toList == [104]) = q := ⟨_, rfl⟩
      rw [hq] at HE
      clear hE hbe c1 h0 hl hr
      go_enter Tryz.func97, Tryz.ntmps97
      go_wp2_with (go_at_call 93; refine (class_any _ _ hT).mono ?_; rintro e w' ⟨rfl, rfl⟩)
      go_ret
      exact ⟨by rw [HE.out]; first | done | rfl, rfl⟩
    · have d1 : (cls (l[0].toNat : Int) == 1) = false := beq_eq_false_iff_ne.2 c1
      have HE : Hid (r = false) := Lib.hid (by rw [← hr, hbe]; show (decide (cls l[0].toNat = 1) && !decide (l[0] = 104)) = _; rw [decide_eq_false c1, Bool.false_and])
      clear hbe c1 h0 hl hr
      go_enter Tryz.func97, Tryz.ntmps97
      go_wp2_with (go_at_call 93; refine (class_any _ _ hT).mono ?_; rintro e w' ⟨rfl, rfl⟩)
      go_ret
      exact ⟨by rw [HE.out]; first | done | rfl, rfl⟩
  · have q1 : ((l.size : Int) == 1) = false := beq_eq_false_iff_ne.2 (by omega)
    have h2 : l.size ≠ 0 := fun h => h0 (by rw [← mkB_self l, List.eq_nil_of_length_eq_zero (hl.trans h)]; rfl)
    have HE : Hid (r = false) := Lib.hid (by rw [← hr, letterOk_long (by omega)])
    clear h0 h1 h2 hl hT hr
    go_enter Tryz.func97, Tryz.ntmps97
    go_wp2
    go_ret
    exact ⟨by rw [HE.out]; first | done | rfl, rfl⟩

def numV (k n : Int) : Val := ⟨k, n, ⟨#[]⟩, []⟩
theorem numArg (w : World) (k n : Int) : ArgOk w (numV k n) none 0 := ⟨Txts.nil_ _ _, Nat.le_refl _, by show (0 : Nat) ≤ 4611686018427387904; decide, fun k h => absurd h (by simp [numV]), by show (0 : Nat) ≤ maxLen; decide⟩
set_option maxRecDepth 100000 in
theorem isNumber_any (k n : Int) (w : World) (hT : Tab w) :
    Calls Tryz.prog 129 #[.int .i64 k, .int .i64 n] w fun e w' => e = .returned (.bool (rightV (numV k n))) ∧ Below w.heap.size w w' := by
  have HR := Lib.hid (right_any w (numV k n) none 0 (numArg w k n) hT)
  obtain ⟨r, hr⟩ : ∃ r, rightV (numV k n) = r := ⟨_, rfl⟩
  rw [hr] at HR ⊢
  unfold argV numV at HR
  simp only [List.length_nil] at HR
  clear hr hT
  go_enter Tryz.func129, Tryz.ntmps129
  go_wp2_with fail
  refine HR.out.mono ?_
  rintro e w' ⟨rfl, hb⟩
  have HB := Lib.hid hb
  clear hb
  go_wp2
  go_ret
  exact ⟨rfl, HB.out⟩

/-- Is a definition's kind one, and may those be its bounds? -/
def boundsOk (k a b : Int) : Bool :=
  if k = 1 ∨ k = 5 then decide (a = 0) && decide (b = 0)
  else if k = 2 ∨ k = 3 ∨ k = 4 then decide (a ≤ b) && (rightV (numV k a) && rightV (numV k b))
  else if k = 6 then decide (0 ≤ a) && (decide (a ≤ b) && decide (b ≤ 16))
  else false
set_option maxHeartbeats 1600000 in
set_option maxRecDepth 100000 in
theorem kbounds_any (nm dl le : ByteArray) (k a b : Int) (w : World) (hT : Tab w) :
    Calls Tryz.prog 98 #[kAgg ⟨nm, k, dl, a, b, le⟩] w fun e w' => e = .returned (.bool (boundsOk k a b)) ∧ Below w.heap.size w w' := by
  have HT := Lib.hid hT
  have HR : Hid (boundsOk k a b = boundsOk k a b) := Lib.hid rfl
  obtain ⟨r, hr⟩ : ∃ r, boundsOk k a b = r := ⟨_, rfl⟩
  rw [hr]
  replace HR := Lib.hid hr
  unfold kAgg
  clear hT hr
  by_cases h15 : k = 1 ∨ k = 5
  · have HE : Hid (r = (decide (a = 0) && decide (b = 0))) := Lib.hid (by rw [← HR.out]; unfold boundsOk; rw [if_pos h15])
    have d0 : ((k == 1) || (k == 5)) = true := by rcases h15 with rfl | rfl <;> rfl
    by_cases ha : a = 0
    · by_cases hb : b = 0
      · subst ha hb
        rcases h15 with rfl | rfl
        all_goals
          go_enter Tryz.func98, Tryz.ntmps98
          go_wp2
          go_ret
          exact ⟨by rw [HE.out]; first | done | rfl, below_one w _⟩
      · have d1 : (b == 0) = false := beq_eq_false_iff_ne.2 hb
        have d2 : decide (b = 0) = false := decide_eq_false hb
        rw [d2, Bool.and_false] at HE
        subst ha
        rcases h15 with rfl | rfl
        all_goals
          go_enter Tryz.func98, Tryz.ntmps98
          go_wp2
          go_ret
          exact ⟨by rw [HE.out]; first | done | rfl, below_one w _⟩
    · have d1 : (a == 0) = false := beq_eq_false_iff_ne.2 ha
      have d2 : decide (a = 0) = false := decide_eq_false ha
      rw [d2, Bool.false_and] at HE
      rcases h15 with rfl | rfl
      all_goals
        go_enter Tryz.func98, Tryz.ntmps98
        go_wp2
        go_ret
        exact ⟨by rw [HE.out]; first | done | rfl, below_one w _⟩
  by_cases h234 : k = 2 ∨ k = 3 ∨ k = 4
  · have HE : Hid (r = (decide (a ≤ b) && (rightV (numV k a) && rightV (numV k b)))) := Lib.hid (by rw [← HR.out]; unfold boundsOk; rw [if_neg h15, if_pos h234])
    clear HR h15
    have HC : Hid (∀ n w1, Below w.heap.size w w1 → Calls Tryz.prog 129 #[.int .i64 k, .int .i64 n] w1 fun e w' => e = .returned (.bool (rightV (numV k n))) ∧ Below w1.heap.size w1 w') := Lib.hid fun n w1 hb => isNumber_any k n w1 (HT.out.below hb)
    obtain ⟨ra, hra⟩ : ∃ ra, rightV (numV k a) = ra := ⟨_, rfl⟩
    obtain ⟨rb, hrb⟩ : ∃ rb, rightV (numV k b) = rb := ⟨_, rfl⟩
    have HA : Hid (∀ w1, Below w.heap.size w w1 → Calls Tryz.prog 129 #[.int .i64 k, .int .i64 a] w1 fun e w' => e = .returned (.bool ra) ∧ Below w1.heap.size w1 w') := Lib.hid fun w1 hb => by have := HC.out a w1 hb; rw [hra] at this; exact this
    have HB : Hid (∀ w1, Below w.heap.size w w1 → Calls Tryz.prog 129 #[.int .i64 k, .int .i64 b] w1 fun e w' => e = .returned (.bool rb) ∧ Below w1.heap.size w1 w') := Lib.hid fun w1 hb => by have := HC.out b w1 hb; rw [hrb] at this; exact this
    rw [hra, hrb] at HE
    clear HC hra hrb HT
    have h0 : Hid (∀ o, Below w.heap.size w (w.alloc o)) := Lib.hid (below_one w)
    by_cases hab : a ≤ b
    · rw [decide_eq_true hab, Bool.true_and] at HE
      cases ra with
      | false =>
        rw [Bool.false_and] at HE
        rcases h234 with rfl | rfl | rfl
        all_goals
          go_enter Tryz.func98, Tryz.ntmps98
          go_wp2_with fail
          refine (HA.out _ (h0.out _)).mono ?_
          rintro e w1 ⟨rfl, hb1⟩
          have HB1 := Lib.hid ((h0.out _).trans (hb1.mono (h0.out _).size))
          clear hb1
          go_wp2
          go_ret
          exact ⟨by rw [HE.out]; first | done | rfl, HB1.out⟩
      | true =>
        rw [Bool.true_and] at HE
        rcases h234 with rfl | rfl | rfl
        all_goals
          go_enter Tryz.func98, Tryz.ntmps98
          go_wp2_with fail
          refine (HA.out _ (h0.out _)).mono ?_
          rintro e w1 ⟨rfl, hb1⟩
          obtain ⟨c0, c1, c2, c3, c4, c5, _⟩ := (box6_new w ⟨nm, _, dl, a, b, le⟩ _).below hb1
          simp only at c0 c1 c2 c3 c4 c5
          have HB1 := Lib.hid ((h0.out _).trans (hb1.mono (h0.out _).size))
          clear hb1
          go_wp2_with fail
          refine (HB.out _ HB1.out).mono ?_
          rintro e w2 ⟨rfl, hb2⟩
          have HB2 := Lib.hid (HB1.out.trans (hb2.mono HB1.out.size))
          clear hb2
          go_wp2
          go_ret
          exact ⟨by rw [HE.out]; first | done | rfl, HB2.out⟩
    · rw [decide_eq_false hab, Bool.false_and] at HE
      rcases h234 with rfl | rfl | rfl
      all_goals
        go_enter Tryz.func98, Tryz.ntmps98
        go_wp2
        go_ret
        exact ⟨by rw [HE.out]; first | done | rfl, h0.out _⟩
  by_cases h6 : k = 6
  · have HE : Hid (r = (decide (0 ≤ a) && (decide (a ≤ b) && decide (b ≤ 16)))) := Lib.hid (by rw [← HR.out]; unfold boundsOk; rw [if_neg h15, if_neg h234, if_pos h6])
    subst h6
    clear HR h15 h234
    by_cases h0 : 0 ≤ a
    · rw [decide_eq_true h0, Bool.true_and] at HE
      by_cases h1 : a ≤ b
      · rw [decide_eq_true h1, Bool.true_and] at HE
        go_enter Tryz.func98, Tryz.ntmps98
        go_wp2
        go_ret
        exact ⟨by rw [HE.out]; first | done | rfl, below_one w _⟩
      · rw [decide_eq_false h1, Bool.false_and] at HE
        go_enter Tryz.func98, Tryz.ntmps98
        go_wp2
        go_ret
        exact ⟨by rw [HE.out]; first | done | rfl, below_one w _⟩
    · rw [decide_eq_false h0, Bool.false_and] at HE
      go_enter Tryz.func98, Tryz.ntmps98
      go_wp2
      go_ret
      exact ⟨by rw [HE.out]; first | done | rfl, below_one w _⟩
  · have HE : Hid (r = false) := Lib.hid (by rw [← HR.out]; unfold boundsOk; rw [if_neg h15, if_neg h234, if_neg h6])
    have e1 : (k == 1) = false := beq_eq_false_iff_ne.2 (fun h => h15 (Or.inl h))
    have e5 : (k == 5) = false := beq_eq_false_iff_ne.2 (fun h => h15 (Or.inr h))
    have e2 : (k == 2) = false := beq_eq_false_iff_ne.2 (fun h => h234 (Or.inl h))
    have e3 : (k == 3) = false := beq_eq_false_iff_ne.2 (fun h => h234 (Or.inr (Or.inl h)))
    have e4 : (k == 4) = false := beq_eq_false_iff_ne.2 (fun h => h234 (Or.inr (Or.inr h)))
    have e6 : (k == 6) = false := beq_eq_false_iff_ne.2 h6
    clear HR h15 h234 h6
    go_enter Tryz.func98, Tryz.ntmps98
    go_wp2
    go_ret
    exact ⟨by rw [HE.out]; first | done | rfl, below_one w _⟩

/-- Has a definition its form? -/
def formK (k : KeyV) : Bool := nameB k.name.data.toList && (letterOk k.letter.data.toList && boundsOk k.kind k.least k.most)
set_option maxHeartbeats 1600000 in
set_option maxRecDepth 100000 in
theorem hasForm_any (k : KeyV) (w : World) (hT : Tab w) (h1 : k.name.size ≤ maxLen) (h2 : k.letter.size ≤ maxLen) :
    Calls Tryz.prog 62 #[kAgg k] w fun e w' => e = .returned (.bool (formK k)) ∧ Below w.heap.size w w' := by
  obtain ⟨nm, kd, dl, a, b, le⟩ := k
  have HW : Hid (∀ o, Below w.heap.size w (w.alloc o)) := Lib.hid (below_one w)
  have HA : Hid (∀ o, Calls Tryz.prog 57 #[.string nm] (w.alloc o) fun e w' => e = .returned (.bool (nameB nm.data.toList)) ∧ w.alloc o = w') := Lib.hid fun o => isName_any nm _ (hT.below (below_one w o)) h1
  have HB : Hid (∀ o, Calls Tryz.prog 97 #[.string le] (w.alloc o) fun e w' => e = .returned (.bool (letterOk le.data.toList)) ∧ w.alloc o = w') := Lib.hid fun o => letterMay_any le _ (hT.below (below_one w o)) h2
  have HC : Hid (∀ o, Calls Tryz.prog 98 #[kAgg ⟨nm, kd, dl, a, b, le⟩] (w.alloc o) fun e w' => e = .returned (.bool (boundsOk kd a b)) ∧ Below (w.alloc o).heap.size (w.alloc o) w') := Lib.hid fun o => kbounds_any nm dl le kd a b _ (hT.below (below_one w o))
  have HD : Hid (formK ⟨nm, kd, dl, a, b, le⟩ = (nameB nm.data.toList && (letterOk le.data.toList && boundsOk kd a b))) := Lib.hid rfl
  obtain ⟨ra, hra⟩ : ∃ ra, nameB nm.data.toList = ra := ⟨_, rfl⟩
  obtain ⟨rb, hrb⟩ : ∃ rb, letterOk le.data.toList = rb := ⟨_, rfl⟩
  obtain ⟨rc, hrc⟩ : ∃ rc, boundsOk kd a b = rc := ⟨_, rfl⟩
  rw [hra] at HA HD
  rw [hrb] at HB HD
  rw [hrc] at HC HD
  obtain ⟨r, hr⟩ : ∃ r, formK ⟨nm, kd, dl, a, b, le⟩ = r := ⟨_, rfl⟩
  rw [hr] at HD ⊢
  unfold kAgg at HC ⊢
  simp only at h1 h2 HC ⊢
  clear hT h1 h2 hra hrb hrc hr
  cases ra with
  | false =>
    go_enter Tryz.func62, Tryz.ntmps62
    go_wp2_with fail
    refine (HA.out _).mono ?_
    rintro e w' ⟨rfl, rfl⟩
    go_wp2
    go_ret
    exact ⟨by rw [HD.out]; first | done | rfl, HW.out _⟩
  | true =>
    cases rb with
    | false =>
      go_enter Tryz.func62, Tryz.ntmps62
      go_wp2_with fail
      refine (HA.out _).mono ?_
      rintro e w' ⟨rfl, rfl⟩
      go_wp2_with fail
      refine (HB.out _).mono ?_
      rintro e w' ⟨rfl, rfl⟩
      go_wp2
      go_ret
      exact ⟨by rw [HD.out]; first | done | rfl, HW.out _⟩
    | true =>
      go_enter Tryz.func62, Tryz.ntmps62
      go_wp2_with fail
      refine (HA.out _).mono ?_
      rintro e w' ⟨rfl, rfl⟩
      go_wp2_with fail
      refine (HB.out _).mono ?_
      rintro e w' ⟨rfl, rfl⟩
      go_wp2_with fail
      refine (HC.out _).mono ?_
      rintro e w' ⟨rfl, hb⟩
      have H := Lib.hid ((HW.out _).trans (hb.mono (HW.out _).size))
      clear hb
      go_wp2
      go_ret
      exact ⟨by rw [HD.out]; first | done | rfl, H.out⟩
end Go.Proofs.YtopghlnoklajkaaGreatDoor

namespace Go.Proofs.YtopghlnoklajkaaGreatDoor
open Go.ChangeShapes Go.WideShapes Go.ChangeAt Go.RowKit

def flat (xs : List KeyV) : List Value := xs.flatMap kCells
theorem flat_nil : flat [] = [] := rfl
theorem flat_cons (k : KeyV) (xs : List KeyV) : flat (k :: xs) = kCells k ++ flat xs := rfl
theorem flat_append (a b : List KeyV) : flat (a ++ b) = flat a ++ flat b := by unfold flat; rw [List.flatMap_append]
theorem flat_len (xs : List KeyV) : (flat xs).length = xs.length * 6 := by
  induction xs with
  | nil => rfl
  | cons k xs ih => rw [flat_cons, List.length_append, ih, List.length_cons]; show 6 + _ = _; omega
theorem flat_get (xs : List KeyV) : ∀ (i r : Nat) (h : i < xs.length), r < 6 → (flat xs)[i * 6 + r]? = (kCells xs[i])[r]? := by
  induction xs with
  | nil => intro i r h; exact absurd h (by simp)
  | cons k xs ih =>
    intro i r h hr
    rw [flat_cons]
    cases i with
    | zero => rw [List.getElem?_append_left (by show 0 * 6 + r < 6; omega)]; rw [show 0 * 6 + r = r by omega]; rfl
    | succ i =>
      rw [List.getElem?_append_right (by show 6 ≤ _; omega), show (i + 1) * 6 + r - (kCells k).length = i * 6 + r by show _ - 6 = _; omega]
      exact ih i r (by simpa using h) hr
theorem Keys.flat {w : World} {b : Nat} {xs : List KeyV} (h : Keys w (some ⟨b, 0, none⟩) xs) : ∀ (j : Nat) (v : Value), (Go.Proofs.YtopghlnoklajkaaGreatDoor.flat xs)[j]? = some v → w.cell? ⟨b, j, none⟩ = some v := by
  intro j v hv
  have hj : j < xs.length * 6 := by rw [← flat_len]; exact (List.getElem?_eq_some_iff.1 hv).1
  have hi : j / 6 < xs.length := by omega
  have hr : j % 6 < 6 := by omega
  have e : j = j / 6 * 6 + j % 6 := by omega
  obtain ⟨b', hb, _, c0, c1, c2, c3, c4, c5⟩ := h (j / 6) hi
  have eb : b = b' := by simpa using hb
  subst eb
  rw [e, flat_get xs _ _ hi hr] at hv
  rw [e]
  generalize xs[j / 6] = k at *
  have h6 : j % 6 = 0 ∨ j % 6 = 1 ∨ j % 6 = 2 ∨ j % 6 = 3 ∨ j % 6 = 4 ∨ j % 6 = 5 := by omega
  rcases h6 with h6 | h6 | h6 | h6 | h6 | h6
  all_goals
    rw [h6] at hv ⊢
    simp only [kCells, List.getElem?_cons_zero, List.getElem?_cons_succ] at hv
    rw [← hv]
    assumption
theorem Keys.of_block {w : World} {g : Nat} {cur : Array Value} {t : TypeId} {fr : Nat × Nat} {xs : List KeyV} (hg : w.heap[g]? = some (.cells cur t fr)) (hp : ∀ (j : Nat) (v : Value), (Go.Proofs.YtopghlnoklajkaaGreatDoor.flat xs)[j]? = some v → cur[j]? = some v) : Keys w (some ⟨g, 0, none⟩) xs := by
  intro i hi
  have c : ∀ r, r < 6 → w.cell? ⟨g, i * 6 + r, none⟩ = (kCells xs[i])[r]? := fun r hr => by
    rw [cell_of_row w g _ cur t fr hg, ← flat_get xs i r hi hr]
    have hl : i * 6 + r < (Go.Proofs.YtopghlnoklajkaaGreatDoor.flat xs).length := by rw [flat_len]; omega
    rw [List.getElem?_eq_getElem hl]
    exact hp _ _ (List.getElem?_eq_getElem hl)
  exact ⟨g, rfl, (Array.getElem?_eq_some_iff.1 hg).1, c 0 (by decide), c 1 (by decide), c 2 (by decide), c 3 (by decide), c 4 (by decide), c 5 (by decide)⟩
theorem flat_one (xs : List KeyV) : ∀ v ∈ flat xs, v.oneCell' = true := by
  intro v hv
  obtain ⟨k, _, hk⟩ := List.mem_flatMap.1 hv
  simp only [kCells, List.mem_cons, List.not_mem_nil, or_false] at hk
  rcases hk with rfl | rfl | rfl | rfl | rfl | rfl <;> rfl
theorem infoKey : (Tryz.prog.info? 73).map (fun i => (i.zero, i.size, i.bytes)) = some (some (.agg #[.string ByteArray.empty, .int .i64 0, .string ByteArray.empty, .int .i64 0, .int .i64 0, .string ByteArray.empty]), 6, 72) := by kernel_rfl
def insK (xs : List KeyV) (i : Nat) (k : KeyV) : List KeyV := xs.take i ++ k :: xs.drop i
def zero6 : List Value := [.string ⟨#[]⟩, .int .i64 0, .string ⟨#[]⟩, .int .i64 0, .int .i64 0, .string ⟨#[]⟩]

/-- What an insertion hands back: a new row. -/
def InsRes (w : World) (xs : List KeyV) (e : Ending) (w' : World) : Prop :=
  ∃ g c, e = .returned (.slice (some ⟨g, 0, none⟩) xs.length c) ∧ w.heap.size ≤ g ∧ xs.length ≤ c ∧ Keys w' (some ⟨g, 0, none⟩) xs ∧ Below w.heap.size w w'

theorem below_drew_alloc (w : World) (o : Obj) : Below w.heap.size w (w.drew.alloc o) := (Below.refl _ w.drew).alloc (Nat.le_refl _) o |> fun h => ⟨h.os, h.tape, h.output, h.size, h.block⟩
theorem add_at (g o j : Nat) : (⟨g, o, none⟩ : Addr).add j = ⟨g, o + j, none⟩ := by unfold Addr.add; split <;> simp_all
/-- An append of a row to a row that has no room: a new row. -/
theorem grow_run (w : World) (b off n : Nat) (olds : List Value) (ho : olds.length = n * 6) (holds : ∀ (j : Nat) (v : Value), olds[j]? = some v → w.cell? ⟨b, off + j, none⟩ = some v)
    (g o m c : Nat) (news : List Value) (hl : news.length = m * 6) (hnews : ∀ (j : Nat) (v : Value), news[j]? = some v → w.cell? ⟨g, o + j, none⟩ = some v) (sc : Nat) (hc : sc < n + m) (hn : n + m ≤ 1000000) :
    ∃ c' cur, (∀ ty, (Builtin.append_ #[32, 32] ty #[.slice (some ⟨b, off, none⟩) n sc, .slice (some ⟨g, o, none⟩) m c]).run Tryz.prog w = .ok (.slice (some ⟨w.heap.size, 0, none⟩) (n + m) c') (w.drew.alloc (.cells cur 73))) ∧
      n + m ≤ c' ∧ c' * 6 = cur.size ∧ ∀ (j : Nat) (v : Value), (olds ++ news)[j]? = some v → cur[j]? = some v := by
  obtain ⟨i0, hi, hz0, hz1, hz2⟩ := info_parts infoKey
  have hle := grownCap_ge w (n + m) sc 73
  refine ⟨_, _, fun ty => run_append_grow (P := Tryz.prog) w 32 ty 73 i0 _ Tryz.underlying32 hi hz0 ⟨b, off, none⟩ n sc olds (by rw [hz1]; exact ho) (fun j v hv => by rw [add_at]; exact holds j v hv) ⟨g, o, none⟩ m c news (by rw [hz1]; exact hl) (fun j v hv => by rw [add_at]; exact hnews j v hv) hc (by omega) (growslice_fits hc (by rw [hz2]; omega)), hle, ?_, ?_⟩
  · rw [Array.size_append, Array.size_append, size_zeroCells]
    show _ = olds.toArray.size + news.toArray.size + (_ - (n + m)) * 6
    simp only [List.size_toArray, ho, hl]
    omega
  · intro j v hv
    have hj : j < (olds ++ news).length := (List.getElem?_eq_some_iff.1 hv).1
    rw [show olds.toArray ++ news.toArray = (olds ++ news).toArray by simp, Array.getElem?_append_left (by simpa using hj)]
    rw [List.getElem?_toArray]; exact hv
theorem first_run (w : World) (g o m c : Nat) (news : List Value) (hl : news.length = m * 6) (hnews : ∀ (j : Nat) (v : Value), news[j]? = some v → w.cell? ⟨g, o + j, none⟩ = some v) (hm : 0 < m) (hn : m ≤ 1000000) :
    ∃ c' cur, (∀ ty, (Builtin.append_ #[32, 32] ty #[.slice none 0 0, .slice (some ⟨g, o, none⟩) m c]).run Tryz.prog w = .ok (.slice (some ⟨w.heap.size, 0, none⟩) m c') (w.drew.alloc (.cells cur 73))) ∧
      m ≤ c' ∧ c' * 6 = cur.size ∧ ∀ (j : Nat) (v : Value), news[j]? = some v → cur[j]? = some v := by
  obtain ⟨i0, hi, hz0, hz1, hz2⟩ := info_parts infoKey
  have hle := grownCap_ge w m 0 73
  refine ⟨_, _, fun ty => run_append_nil (P := Tryz.prog) w 32 ty 73 i0 _ Tryz.underlying32 hi hz0 ⟨g, o, none⟩ m c news (by rw [hz1]; exact hl) (fun j v hv => by rw [add_at]; exact hnews j v hv) hm (by omega) (by rw [hz2]; omega), hle, ?_, ?_⟩
  · rw [Array.size_append, size_zeroCells]
    show _ = news.toArray.size + (_ - m) * 6
    simp only [List.size_toArray, hl]
    omega
  · intro j v hv
    have hj : j < news.length := (List.getElem?_eq_some_iff.1 hv).1
    rw [Array.getElem?_append_left (by simpa using hj)]
    rw [List.getElem?_toArray]; exact hv
/-- An append of zeros to a row that has no room: a new row. -/
theorem zeros_run (w : World) (b off n : Nat) (olds : List Value) (ho : olds.length = n * 6) (holds : ∀ (j : Nat) (v : Value), olds[j]? = some v → w.cell? ⟨b, off + j, none⟩ = some v)
    (m : Nat) (h0 : 0 < m) (sc : Nat) (hc : sc < n + m) (hn : n + m ≤ 1000000) :
    ∃ c' cur, (∀ ty, (Builtin.append_ #[32, 3] ty #[.slice (some ⟨b, off, none⟩) n sc, .int .i64 m]).run Tryz.prog w = .ok (.slice (some ⟨w.heap.size, 0, none⟩) (n + m) c') (w.drew.alloc (.cells cur 73))) ∧
      n + m ≤ c' ∧ c' * 6 = cur.size ∧ ∀ (j : Nat) (v : Value), olds[j]? = some v → cur[j]? = some v := by
  obtain ⟨i0, hi, hz0, hz1, hz2⟩ := info_parts infoKey
  have hle := grownCap_ge w (n + m) sc 73
  refine ⟨_, _, fun ty => Lib.run_append_grow_zeros (P := Tryz.prog) w 32 3 ty 73 i0 _ .i64 .i64 Tryz.underlying32 Tryz.underlying3 hi hz0 (some ⟨b, off, none⟩) n sc olds
    (run_firstCells_some (P := Tryz.prog) w.drew i0.size n ⟨b, off, none⟩ n sc olds (by rw [hz1]; exact ho) (fun j v hv => by rw [add_at]; exact holds j v hv)) m h0 (by rw [hz1]; decide) hc (by omega) (by rw [hz2]; omega) (growslice_fits hc (by rw [hz2]; omega)), hle, ?_, ?_⟩
  · rw [Array.size_append, Array.size_append, size_zeroCells, size_zeroCells]
    show _ = olds.toArray.size + m * 6 + (_ - (n + m)) * 6
    simp only [List.size_toArray, ho]
    omega
  · intro j v hv
    have hj : j < olds.length := (List.getElem?_eq_some_iff.1 hv).1
    rw [Array.append_assoc, Array.getElem?_append_left (by simpa using hj)]
    rw [List.getElem?_toArray]; exact hv
/-- Cells laid over a row. -/
def over (cur : Array Value) (o : Nat) (cs : List Value) : Array Value := (cur.toList.take o ++ cs ++ cur.toList.drop (o + cs.length)).toArray
theorem over_size {cur : Array Value} {o : Nat} {cs : List Value} (hfit : o + cs.length ≤ cur.size) : (over cur o cs).size = cur.size := by
  unfold over
  simp only [List.size_toArray, List.length_append, List.length_take, List.length_drop, Array.length_toList]; omega
theorem over_in {cur : Array Value} {o : Nat} {cs : List Value} (hfit : o + cs.length ≤ cur.size) (j : Nat) (v : Value) (hv : cs[j]? = some v) : (over cur o cs)[o + j]? = some v := by
  have hj : j < cs.length := (List.getElem?_eq_some_iff.1 hv).1
  unfold over
  rw [List.getElem?_toArray, List.append_assoc, List.getElem?_append_right (by rw [List.length_take, Array.length_toList (xs := cur)]; omega), List.getElem?_append_left (by rw [List.length_take, Array.length_toList (xs := cur)]; omega), List.length_take, Array.length_toList (xs := cur)]
  rw [show o + j - min o cur.size = j by omega]; exact hv
theorem over_out {cur : Array Value} {o : Nat} {cs : List Value} (hfit : o + cs.length ≤ cur.size) (j : Nat) (hj : j < o ∨ o + cs.length ≤ j) : (over cur o cs)[j]? = cur[j]? := by
  unfold over
  rw [List.getElem?_toArray, List.append_assoc]
  rcases hj with hj | hj
  · rw [List.getElem?_append_left (by rw [List.length_take, Array.length_toList (xs := cur)]; omega), List.getElem?_take, if_pos hj, Array.getElem?_toList]
  · rw [List.getElem?_append_right (by rw [List.length_take, Array.length_toList (xs := cur)]; omega), List.getElem?_append_right (by rw [List.length_take, Array.length_toList (xs := cur)]; omega), List.getElem?_drop, List.length_take, Array.length_toList (xs := cur), Array.getElem?_toList]
    rw [show o + cs.length + (j - min o cur.size - cs.length) = j by omega]
/-- What a copy leaves in a row. -/
theorem copy_run (w : World) (g o dl dc b off sl sc n : Nat) (cs : List Value) (cur : Array Value) (t : TypeId) (hg : w.heap[g]? = some (.cells cur t (0, 0))) (hm : Nat.min sl dl = n) (hn : cs.length = n * 6)
    (hsrc : ∀ (j : Nat) (v : Value), cs[j]? = some v → w.cell? ⟨b, off + j, none⟩ = some v) (hfit : o + cs.length ≤ cur.size) (h1 : ∀ v ∈ cs, v.oneCell' = true) (ty : TypeId) :
    (Builtin.copy_ #[32, 32] ty #[.slice (some ⟨g, o, none⟩) dl dc, .slice (some ⟨b, off, none⟩) sl sc]).run Tryz.prog w = .ok (goInt n) (w.setRow g (over cur o cs)) := by
  obtain ⟨i0, hi, hz0, hz1, hz2⟩ := info_parts infoKey
  exact run_copy_rowN (P := Tryz.prog) w 32 32 ty 73 g o dl dc ⟨b, off, none⟩ sl sc n cur t cs i0 Tryz.underlying32 hi hg hm (by rw [hz1]; exact hn) (fun j v hv => by rw [add_at]; exact hsrc j v hv) hfit h1

set_option maxHeartbeats 1600000 in
set_option maxRecDepth 100000 in
theorem insert_nil (k : KeyV) (g : Nat) (w : World) (hg : Keys w (some ⟨g, 0, none⟩) [k]) :
    Calls Tryz.prog 64 #[.slice none 0 0, .int .i64 0, .slice (some ⟨g, 0, none⟩) 1 1] w (InsRes w [k]) := by
  obtain ⟨c, cur, hr, h1, h2, h3⟩ := first_run w g 0 1 1 (flat [k]) rfl (fun j v hv => by rw [Nat.zero_add]; exact hg.flat j v hv) (by decide) (by decide)
  have HE : Hid (InsRes w [k] (.returned (.slice (some ⟨w.heap.size, 0, none⟩) 1 c)) (w.drew.alloc (.cells cur 73))) := Lib.hid
    ⟨_, c, rfl, Nat.le_refl _, h1, Keys.of_block (t := 73) (fr := (0, 0)) (heap_alloc_new w.drew _) h3, below_drew_alloc w _⟩
  have HR := Lib.hid hr
  clear hr hg h1 h2 h3
  go_enter Tryz.func64, Tryz.ntmps64
  go_wp2_with (at_builtin; refine wpList_append_eq rfl _ _ _ _ rfl _ _ _ rfl rfl (HR.out _) ?_)
  go_ret
  exact HE.out
set_option maxHeartbeats 1600000 in
set_option maxRecDepth 100000 in
theorem insert_end (xs : List KeyV) (k : KeyV) (b g : Nat) (w : World) (hx : Keys w (some ⟨b, 0, none⟩) xs) (hg : Keys w (some ⟨g, 0, none⟩) [k]) (h0 : 0 < xs.length) (hn : xs.length ≤ 999999) :
    Calls Tryz.prog 64 #[.slice (some ⟨b, 0, none⟩) xs.length xs.length, .int .i64 xs.length, .slice (some ⟨g, 0, none⟩) 1 1] w (InsRes w (xs ++ [k])) := by
  obtain ⟨c, cur, hr, h1, h2, h3⟩ := grow_run w b 0 xs.length (flat xs) (flat_len xs) (fun j v hv => by rw [Nat.zero_add]; exact hx.flat j v hv) g 0 1 1 (flat [k]) rfl (fun j v hv => by rw [Nat.zero_add]; exact hg.flat j v hv) xs.length (by omega) (by omega)
  have HE : Hid (InsRes w (xs ++ [k]) (.returned (.slice (some ⟨w.heap.size, 0, none⟩) (xs.length + 1) c)) (w.drew.alloc (.cells cur 73))) := Lib.hid
    ⟨_, c, by rw [List.length_append]; rfl, Nat.le_refl _, by rw [List.length_append]; exact h1, Keys.of_block (t := 73) (fr := (0, 0)) (heap_alloc_new w.drew _) (by rw [flat_append]; exact h3), below_drew_alloc w _⟩
  have HR := Lib.hid hr
  clear hr hg h1 h2 h3 hx
  generalize xs.length = n at *
  have q1 : (0 : Int) ≤ n := by omega
  go_enter Tryz.func64, Tryz.ntmps64
  go_wp2_with (at_builtin; refine wpList_append_eq rfl _ _ _ _ rfl _ _ _ rfl rfl (HR.out _) ?_)
  go_ret
  exact HE.out
set_option maxHeartbeats 1600000 in
set_option maxRecDepth 100000 in
theorem insert_mid (xs : List KeyV) (k : KeyV) (i b g : Nat) (w : World) (hx : Keys w (some ⟨b, 0, none⟩) xs) (hg : Keys w (some ⟨g, 0, none⟩) [k]) (hbl : b < w.heap.size) (hgl : g < w.heap.size) (hi : i < xs.length) (hn : xs.length ≤ 999999) :
    Calls Tryz.prog 64 #[.slice (some ⟨b, 0, none⟩) xs.length xs.length, .int .i64 i, .slice (some ⟨g, 0, none⟩) 1 1] w (InsRes w (insK xs i k)) := by
  obtain ⟨q, hq⟩ : ∃ q : Nat, (xs.length : Int) + 1 - i = q := ⟨xs.length + 1 - i, by omega⟩
  have hiq : i + q = xs.length + 1 := by omega
  have hf1 : (flat (xs.take i)).length = i * 6 := by rw [flat_len, List.length_take, Nat.min_eq_left (by omega)]
  have hf2 : (flat (xs.drop i)).length = (xs.length - i) * 6 := by rw [flat_len, List.length_drop]
  have hfx : flat xs = flat (xs.take i) ++ flat (xs.drop i) := by rw [← flat_append, List.take_append_drop]
  have hs1 : ∀ (j : Nat) (v : Value), (flat (xs.take i))[j]? = some v → w.cell? ⟨b, 0 + j, none⟩ = some v := fun j v hv => by
    rw [Nat.zero_add]
    have hj : j < (flat (xs.take i)).length := (List.getElem?_eq_some_iff.1 hv).1
    exact hx.flat j v (by rw [hfx, List.getElem?_append_left hj]; exact hv)
  have hs2 : ∀ (j : Nat) (v : Value), (flat (xs.drop i))[j]? = some v → w.cell? ⟨b, i * 6 + j, none⟩ = some v := fun j v hv =>
    hx.flat _ v (by rw [hfx, List.getElem?_append_right (by omega), show i * 6 + j - (flat (xs.take i)).length = j by omega]; exact hv)
  have hs3 : ∀ (j : Nat) (v : Value), (flat [k])[j]? = some v → w.cell? ⟨g, 0 + j, none⟩ = some v := fun j v hv => by rw [Nat.zero_add]; exact hg.flat j v hv
  obtain ⟨c, cur, hr, h1, h2, h3⟩ := zeros_run w b 0 i (flat (xs.take i)) hf1 hs1 q (by omega) xs.length (by omega) (by omega)
  rw [hiq] at hr h1
  have hk6 : (flat [k]).length = 6 := rfl
  have fit1 : i * 6 + (flat [k]).length ≤ cur.size := by rw [hk6]; omega
  have hz1 : (over cur (i * 6) (flat [k])).size = cur.size := over_size fit1
  have fit2 : (i + 1) * 6 + (flat (xs.drop i)).length ≤ (over cur (i * 6) (flat [k])).size := by rw [hz1, hf2]; omega
  -- the two copies, in any world whose heap is that one
  have HC1 : Hid (∀ W : World, W.heap = (w.drew.alloc (.cells cur 73)).heap → ∀ ty, (Builtin.copy_ #[32, 32] ty #[.slice (some ⟨w.heap.size, i * 6, none⟩) (xs.length + 1 - i) (c - i), .slice (some ⟨g, 0, none⟩) 1 1]).run Tryz.prog W = .ok (goInt 1) (W.setRow w.heap.size (over cur (i * 6) (flat [k])))) := Lib.hid fun W hW ty => by
    have hb : Below w.heap.size w (w.drew.alloc (.cells cur 73)) := below_drew_alloc w _
    have hc : ∀ p : Addr, W.cell? p = (w.drew.alloc (.cells cur 73)).cell? p := fun p => by unfold World.cell?; rw [hW]
    exact copy_run W w.heap.size (i * 6) _ _ g 0 1 1 1 (flat [k]) cur 73 (by rw [hW]; exact heap_alloc_new w.drew _) (by show min 1 _ = 1; omega) rfl (fun j v hv => by rw [hc, hb.cell (p := ⟨g, 0 + j, none⟩) hgl]; exact hs3 j v hv) fit1 (flat_one _) ty
  have HC2 : Hid (∀ W : World, W.heap = ((w.drew.alloc (.cells cur 73)).setRow w.heap.size (over cur (i * 6) (flat [k]))).heap → ∀ ty, (Builtin.copy_ #[32, 32] ty #[.slice (some ⟨w.heap.size, (i + 1) * 6, none⟩) (xs.length + 1 - (i + 1)) (c - (i + 1)), .slice (some ⟨b, i * 6, none⟩) (xs.length - i) (xs.length - i)]).run Tryz.prog W = .ok (goInt ((xs.length - i : Nat) : Int)) (W.setRow w.heap.size (over (over cur (i * 6) (flat [k])) ((i + 1) * 6) (flat (xs.drop i))))) := Lib.hid fun W hW ty => by
    have hb : Below w.heap.size w ((w.drew.alloc (.cells cur 73)).setRow w.heap.size (over cur (i * 6) (flat [k]))) := below_setRow (below_drew_alloc w _) (Nat.le_refl _) _
    have hc : ∀ p : Addr, W.cell? p = ((w.drew.alloc (.cells cur 73)).setRow w.heap.size (over cur (i * 6) (flat [k]))).cell? p := fun p => by unfold World.cell?; rw [hW]
    exact copy_run W w.heap.size ((i + 1) * 6) _ _ b (i * 6) _ _ (xs.length - i) (flat (xs.drop i)) _ 73 (by rw [hW]; exact setRow_heap _ _ cur _ _ _ (heap_alloc_new w.drew _)) (by show min _ _ = _; omega) hf2 (fun j v hv => by rw [hc, hb.cell (p := ⟨b, i * 6 + j, none⟩) hbl]; exact hs2 j v hv) fit2 (flat_one _) ty
  have HE : Hid (∀ W : World, W.heap = (((w.drew.alloc (.cells cur 73)).setRow w.heap.size (over cur (i * 6) (flat [k]))).setRow w.heap.size (over (over cur (i * 6) (flat [k])) ((i + 1) * 6) (flat (xs.drop i)))).heap → Below w.heap.size w W → InsRes w (insK xs i k) (.returned (.slice (some ⟨w.heap.size, 0, none⟩) (xs.length + 1) c)) W) := Lib.hid fun W hW hbW => by
    refine ⟨_, c, ?_, Nat.le_refl _, ?_, Keys.of_block (t := 73) (fr := (0, 0)) (by rw [hW]; exact setRow_heap _ _ _ _ _ _ (setRow_heap _ _ cur _ _ _ (heap_alloc_new w.drew _))) ?_, hbW⟩
    · have : (insK xs i k).length = xs.length + 1 := by unfold insK; simp; omega
      rw [this]
    · have : (insK xs i k).length = xs.length + 1 := by unfold insK; simp; omega
      rw [this]; exact h1
    · intro j v hv
      have e : flat (insK xs i k) = flat (xs.take i) ++ (flat [k] ++ flat (xs.drop i)) := by
        unfold insK; rw [flat_append, show k :: xs.drop i = [k] ++ xs.drop i from rfl, flat_append]
      rw [e] at hv
      by_cases hj1 : j < i * 6
      · rw [List.getElem?_append_left (by omega)] at hv
        rw [over_out fit2 j (Or.inl (by omega)), over_out fit1 j (Or.inl hj1)]
        exact h3 j v hv
      · rw [List.getElem?_append_right (by omega), hf1] at hv
        by_cases hj2 : j < (i + 1) * 6
        · rw [List.getElem?_append_left (by omega)] at hv
          rw [over_out fit2 j (Or.inl hj2), show j = i * 6 + (j - i * 6) by omega]
          exact over_in fit1 _ v hv
        · rw [List.getElem?_append_right (by omega), hk6] at hv
          rw [show j = (i + 1) * 6 + (j - i * 6 - 6) by omega]
          exact over_in fit2 _ v hv
  have HR := Lib.hid hr
  clear hr h2 h3 hs1 hs2 hs3 hf1 hf2 hfx fit1 fit2 hz1 hk6 hx hg
  generalize xs.length = n at *
  have hic : i + 1 ≤ c := by omega
  have q1 : (0 : Int) ≤ i := by omega
  have q2 : (i : Int) < n := by omega
  have q3 : (i : Int) ≤ n := by omega
  have q4 : ((i : Int) == n) = false := beq_eq_false_iff_ne.2 (by omega)
  have q5 : (n : Int) < n + 1 := by omega
  have hc1 := HC1.out (w.alloc (.cells cur 73)).drew rfl
  have hiI : (i : Int) + 1 ≤ n + 1 := by omega
  have hiJ : (0 : Int) ≤ (i : Int) + 1 := by omega
  have hwr : IntKind.i64.wrap ((i : Int) + 1) = (i : Int) + 1 := by rw [IntKind.wrap_i64]; omega
  have hne : ¬ c = i + 1 := by omega
  have hne2 : ¬ n = i := by omega
  generalize over cur (i * 6) (flat [k]) = X1 at *
  generalize over X1 ((i + 1) * 6) (flat (xs.drop i)) = X2 at *
  have HC3 : Hid (∀ W : World, W = (w.alloc (.cells cur 73)).drew.setRow w.heap.size X1 → ∀ ty, (Builtin.copy_ #[32, 32] ty #[.slice (some ⟨w.heap.size, (i + 1) * 6, none⟩) (n - i) (c - (i + 1)), .slice (some ⟨b, i * 6, none⟩) (n - i) (n - i)]).run Tryz.prog W.drew = .ok (goInt ((n - i : Nat) : Int)) (W.drew.setRow w.heap.size X2)) := Lib.hid fun W hW => by
    subst hW
    have h := HC2.out ((w.alloc (.cells cur 73)).drew.setRow w.heap.size X1).drew rfl
    rw [show n + 1 - (i + 1) = n - i by omega] at h
    exact h
  have HE3 : Hid (∀ W : World, W = (w.alloc (.cells cur 73)).drew.setRow w.heap.size X1 → InsRes w (insK xs i k) (.returned (.slice (some ⟨w.heap.size, 0, none⟩) (n + 1) c)) (W.drew.setRow w.heap.size X2)) := Lib.hid fun W hW => by
    subst hW
    refine HE.out _ rfl ⟨rfl, rfl, rfl, ?_, ?_⟩
    · simp [World.setRow]
    · intro k hk
      have hne : k ≠ w.heap.size := by omega
      rw [setRow_other _ _ _ _ hne]
      show ((w.alloc (.cells cur 73)).setRow w.heap.size X1).heap[k]? = _
      rw [setRow_other _ _ _ _ hne]
      exact (below_one w _).block k hk
  clear HC1 HC2 HE
  go_enter Tryz.func64, Tryz.ntmps64
  go_wp2_with (at_builtin; refine wpList_append_eq rfl _ _ _ _ rfl _ _ _ rfl rfl (HR.out _) ?_)
  have hC := HC3.out _ rfl
  have hE := HE3.out _ rfl
  generalize (w.alloc (.cells cur 73)).drew.setRow w.heap.size X1 = W1 at hC hE ⊢
  generalize w.heap.size = y at hC hE ⊢
  replace HC3 := Lib.hid hC
  replace HE3 := Lib.hid hE
  clear hC hE hc1
  have hcp := HC3.out
  go_region
  all_goals
    clear hcp
    go_wp2
    go_ret
    exact HE3.out
end Go.Proofs.YtopghlnoklajkaaGreatDoor

namespace Go.Proofs.YtopghlnoklajkaaGreatDoor

theorem cmp_refl : ∀ a : List UInt8, Lib.compareBytes a a = 0
  | [] => rfl
  | x :: a => by unfold Lib.compareBytes; rw [if_neg (UInt8.lt_irrefl x), if_neg (UInt8.lt_irrefl x)]; exact cmp_refl a
theorem cmp_eq0 : ∀ a b : List UInt8, Lib.compareBytes a b = 0 → a = b
  | [], [], _ => rfl
  | [], _ :: _, h => by simp [Lib.compareBytes] at h
  | _ :: _, [], h => by simp [Lib.compareBytes] at h
  | x :: a, y :: b, h => by
    unfold Lib.compareBytes at h
    split at h
    · exact absurd h (by decide)
    · rename_i h1
      split at h
      · exact absurd h (by decide)
      · rename_i h2
        have e : x = y := UInt8.le_antisymm (UInt8.not_lt.1 h2) (UInt8.not_lt.1 h1)
        rw [e, cmp_eq0 a b h]
theorem cmp_anti : ∀ a b : List UInt8, Lib.compareBytes b a = - Lib.compareBytes a b
  | [], [] => rfl
  | [], _ :: _ => rfl
  | _ :: _, [] => rfl
  | x :: a, y :: b => by
    unfold Lib.compareBytes
    by_cases h1 : x < y
    · rw [if_pos h1, if_neg (fun h => UInt8.lt_irrefl x (UInt8.lt_trans h1 h)), if_pos h1]; rfl
    · by_cases h2 : y < x
      · rw [if_pos h2, if_neg h1, if_pos h2]
      · rw [if_neg h2, if_neg h1, if_neg h1, if_neg h2]; exact cmp_anti a b
theorem cmp_trans : ∀ a b c : List UInt8, Lib.compareBytes a b < 0 → Lib.compareBytes b c < 0 → Lib.compareBytes a c < 0
  | [], [], _, h, _ => absurd h (by simp [Lib.compareBytes])
  | [], _ :: _, [], _, h => absurd h (by simp [Lib.compareBytes])
  | [], _ :: _, _ :: _, _, _ => by simp [Lib.compareBytes]
  | _ :: _, [], _, h, _ => absurd h (by simp [Lib.compareBytes])
  | _ :: _, _ :: _, [], _, h => absurd h (by simp [Lib.compareBytes])
  | x :: a, y :: b, z :: c, h, k => by
    unfold Lib.compareBytes at h k ⊢
    by_cases h1 : x < y
    · by_cases k1 : y < z
      · rw [if_pos (UInt8.lt_trans h1 k1)]; decide
      · rw [if_neg k1] at k
        by_cases k2 : z < y
        · rw [if_pos k2] at k; exact absurd k (by decide)
        · have e : y = z := UInt8.le_antisymm (UInt8.not_lt.1 k2) (UInt8.not_lt.1 k1)
          rw [← e, if_pos h1]; decide
    · rw [if_neg h1] at h
      by_cases h2 : y < x
      · rw [if_pos h2] at h; exact absurd h (by decide)
      · have e : x = y := UInt8.le_antisymm (UInt8.not_lt.1 h2) (UInt8.not_lt.1 h1)
        rw [if_neg h2] at h
        rw [e]
        by_cases k1 : y < z
        · rw [if_pos k1]; decide
        · rw [if_neg k1] at k ⊢
          by_cases k2 : z < y
          · rw [if_pos k2] at k; exact absurd k (by decide)
          · rw [if_neg k2] at k ⊢
            exact cmp_trans a b c h k
theorem cmpB_eq {a b : ByteArray} (h : cmpB a b = 0) : a = b := by
  have := cmp_eq0 _ _ h
  rw [← mkB_self a, this, mkB_self]
theorem cmpB_refl (a : ByteArray) : cmpB a a = 0 := cmp_refl _
theorem cmpB_anti (a b : ByteArray) : cmpB b a = - cmpB a b := cmp_anti _ _
theorem cmpB_trans {a b c : ByteArray} (h : cmpB a b < 0) (k : cmpB b c < 0) : cmpB a c < 0 := cmp_trans _ _ _ h k

/-- By rising names. -/
def Sorted (xs : List KeyV) : Prop := ∀ a b (hb : b < xs.length) (h : a < b), cmpB (xs[a]'(Nat.lt_trans h hb)).name xs[b].name < 0
theorem Sorted.mono {xs : List KeyV} (h : Sorted xs) (nm : ByteArray) : Mono xs nm := fun a b hab hb hc => by
  rcases Nat.lt_or_ge a b with h1 | h1
  · rw [cmpAt_of hb] at hc
    rw [cmpAt_of (Nat.lt_trans h1 hb)]
    exact cmpB_trans (h a b hb h1) hc
  · have e : a = b := by omega
    rw [e]; exact hc
theorem place_one {xs : List KeyV} {nm : ByteArray} {i j : Nat} (h : PlaceIs xs nm i) (k : PlaceIs xs nm j) : i = j := by
  obtain ⟨h0, h1, h2⟩ := h
  obtain ⟨k0, k1, k2⟩ := k
  rcases Nat.lt_trichotomy i j with h | h | h
  · have := k1 i h; have := h2 i (Nat.le_refl _) (by omega); omega
  · exact h
  · have := h1 j h; have := k2 j (Nat.le_refl _) (by omega); omega
/-- Where a name stands, or would stand. -/
def posK (xs : List KeyV) (nm : ByteArray) : Nat := (xs.takeWhile fun q => decide (cmpB q.name nm < 0)).length
theorem tw_lt {α : Type} (p : α → Bool) : ∀ (xs : List α) (t : Nat), t < (xs.takeWhile p).length → ∃ h2 : t < xs.length, p xs[t] = true := by
  intro xs
  induction xs with
  | nil => intro t h; simp at h
  | cons x xs ih =>
    intro t h
    rw [List.takeWhile_cons] at h
    split at h
    · rename_i hx
      cases t with
      | zero => exact ⟨by simp, hx⟩
      | succ t =>
        obtain ⟨h2, h3⟩ := ih t (by simpa using h)
        exact ⟨by simpa using h2, by simpa using h3⟩
    · simp at h
theorem tw_at {α : Type} (p : α → Bool) : ∀ (xs : List α) (h : (xs.takeWhile p).length < xs.length), p xs[(xs.takeWhile p).length] = false := by
  intro xs
  induction xs with
  | nil => intro h; simp at h
  | cons x xs ih =>
    intro h
    by_cases hx : p x = true
    · have e : ((x :: xs).takeWhile p).length = (xs.takeWhile p).length + 1 := by rw [List.takeWhile_cons, if_pos hx]; rfl
      have h2 : (xs.takeWhile p).length < xs.length := by rw [e] at h; simpa using h
      have := ih h2
      simp only [e, List.getElem_cons_succ]; exact this
    · have e : ((x :: xs).takeWhile p).length = 0 := by rw [List.takeWhile_cons, if_neg hx]; rfl
      simp only [e, List.getElem_cons_zero]; simpa using hx
theorem tw_le {α : Type} (p : α → Bool) (xs : List α) : (xs.takeWhile p).length ≤ xs.length := (List.takeWhile_sublist p).length_le
theorem posK_is {xs : List KeyV} {nm : ByteArray} (hm : Mono xs nm) : PlaceIs xs nm (posK xs nm) := by
  refine ⟨tw_le _ _, fun t ht => ?_, fun t h1 h2 => ?_⟩
  · obtain ⟨h3, h4⟩ := tw_lt _ xs t ht
    rw [cmpAt_of h3]; simpa using h4
  · rcases Int.lt_or_le (cmpAt xs nm t) 0 with h | h
    · have h3 : posK xs nm < xs.length := Nat.lt_of_le_of_lt h1 h2
      have h4 := hm _ _ h1 h2 h
      have h5 := tw_at _ xs h3
      rw [cmpAt_of h3] at h4
      have h6 : decide (cmpB (xs[posK xs nm]'h3).name nm < 0) = false := h5
      rw [decide_eq_true h4] at h6; cases h6
    · exact h
def hasK (xs : List KeyV) (nm : ByteArray) : Bool := xs.any fun q => decide (q.name = nm)
theorem found_is {xs : List KeyV} {nm : ByteArray} {i : Nat} (hs : Sorted xs) (h : PlaceIs xs nm i) : (decide (i < xs.length) && decide (cmpAt xs nm i = 0)) = hasK xs nm := by
  rw [Bool.eq_iff_iff]
  unfold hasK
  simp only [Bool.and_eq_true, decide_eq_true_eq, List.any_eq_true]
  constructor
  · rintro ⟨h1, h2⟩
    rw [cmpAt_of h1] at h2
    exact ⟨_, List.getElem_mem h1, cmpB_eq h2⟩
  · rintro ⟨q, hq, e⟩
    obtain ⟨t, ht, rfl⟩ := List.getElem_of_mem hq
    have hz : cmpAt xs nm t = 0 := by rw [cmpAt_of ht, e]; exact cmpB_refl _
    have hit : i ≤ t := by
      rcases Nat.lt_or_ge t i with h3 | h3
      · have := h.2.1 t h3; omega
      · exact h3
    have hi : i < xs.length := by omega
    refine ⟨hi, ?_⟩
    rcases Nat.lt_or_ge i t with h3 | h3
    · have h4 := hs i t ht h3
      rw [e] at h4
      have := h.2.2 i (Nat.le_refl _) hi
      rw [cmpAt_of hi] at this
      omega
    · have : i = t := by omega
      rw [this]; exact hz
theorem ins_sorted {xs : List KeyV} {k : KeyV} {i : Nat} (hs : Sorted xs) (h : PlaceIs xs k.name i) (hn : hasK xs k.name = false) : Sorted ((xs.take i ++ k :: xs.drop i)) := by
  have hne : ∀ t (ht : t < xs.length), i ≤ t → cmpB k.name xs[t].name < 0 := fun t ht hit => by
    have h1 := h.2.2 t hit ht
    rw [cmpAt_of ht] at h1
    have h2 : cmpB xs[t].name k.name ≠ 0 := fun h0 => by
      have : hasK xs k.name = true := List.any_eq_true.2 ⟨_, List.getElem_mem ht, by rw [decide_eq_true_eq]; exact cmpB_eq h0⟩
      rw [hn] at this; cases this
    rw [cmpB_anti]; omega
  have hi := h.1
  have hlen : ((xs.take i ++ k :: xs.drop i)).length = xs.length + 1 := by simp; omega
  have g1 : ∀ t (ht : t < ((xs.take i ++ k :: xs.drop i)).length), t < i → ∃ h2 : t < xs.length, ((xs.take i ++ k :: xs.drop i))[t] = xs[t] := fun t ht h1 => ⟨by omega, by
    rw [List.getElem_append_left (by simp; omega), List.getElem_take]⟩
  have g2 : ∀ (ht : i < ((xs.take i ++ k :: xs.drop i)).length), ((xs.take i ++ k :: xs.drop i))[i] = k := fun ht => by
    rw [List.getElem_append_right (by simp; omega)]; simp [Nat.min_eq_left hi]
  have g3 : ∀ t (ht : t < ((xs.take i ++ k :: xs.drop i)).length), i < t → ∃ h2 : t - 1 < xs.length, ((xs.take i ++ k :: xs.drop i))[t] = xs[t - 1] := fun t ht h1 => ⟨by omega, by
    rw [List.getElem_append_right (by simp; omega)]
    simp only [List.length_take, Nat.min_eq_left hi]
    rw [List.getElem_cons, dif_neg (by omega), List.getElem_drop]
    congr 1; omega⟩
  intro a b hb hab
  have ha : a < ((xs.take i ++ k :: xs.drop i)).length := Nat.lt_trans hab hb
  rcases Nat.lt_trichotomy b i with hbi | hbi | hbi
  · obtain ⟨h2, e2⟩ := g1 b hb hbi
    obtain ⟨h1, e1⟩ := g1 a ha (by omega)
    rw [e1, e2]; exact hs a b h2 hab
  · subst hbi
    obtain ⟨h1, e1⟩ := g1 a ha hab
    rw [e1, g2 hb]
    have := h.2.1 a hab
    rw [cmpAt_of h1] at this; exact this
  · obtain ⟨h2, e2⟩ := g3 b hb hbi
    rw [e2]
    rcases Nat.lt_trichotomy a i with hai | hai | hai
    · obtain ⟨h1, e1⟩ := g1 a ha hai
      rw [e1]; exact hs a (b - 1) h2 (by omega)
    · subst hai
      rw [g2 ha]; exact hne _ h2 (by omega)
    · obtain ⟨h1, e1⟩ := g3 a ha hai
      rw [e1]; exact hs (a - 1) (b - 1) h2 (by omega)

/-- May a definition's default be? -/
def dfltK (k : KeyV) : Bool := decide ((parseV k.kind k.dflt).2 = 0) && withinV (parseV k.kind k.dflt).1 k.least k.most
/-- What Add answers, and what the set then has. -/
def addE (xs : List KeyV) (k : KeyV) : Int :=
  if formK k = false then 50 else if dfltK k = false then 53 else if hasK xs k.name = true then 51 else if (letterK xs k.letter).isSome = true then 52 else if 64 ≤ xs.length then 54 else 0
def addK (xs : List KeyV) (k : KeyV) : List KeyV := if addE xs k = 0 then insK xs (posK xs k.name) k else xs
theorem addK_len (xs : List KeyV) (k : KeyV) (h : xs.length ≤ 64) : (addK xs k).length ≤ 64 := by
  unfold addK
  split
  · rename_i h0
    have h1 : ¬ 64 ≤ xs.length := fun h2 => by
      unfold addE at h0
      rw [if_pos h2] at h0
      repeat' split at h0
      all_goals exact absurd h0 (by decide)
    have : (insK xs (posK xs k.name) k).length = xs.length + 1 := by
      have := tw_le (fun q => decide (cmpB q.name k.name < 0)) xs
      unfold insK posK; simp; omega
    omega
  · exact h
theorem addK_sorted {xs : List KeyV} (k : KeyV) (h : Sorted xs) : Sorted (addK xs k) := by
  unfold addK
  split
  · rename_i h0
    have hn : hasK xs k.name = false := by
      cases hh : hasK xs k.name with
      | false => rfl
      | true =>
        unfold addE at h0
        rw [if_pos hh] at h0
        repeat' split at h0
        all_goals exact absurd h0 (by decide)
    exact ins_sorted h (posK_is (h.mono _)) hn
  · exact h
end Go.Proofs.YtopghlnoklajkaaGreatDoor

namespace Go.Proofs.YtopghlnoklajkaaGreatDoor
open Go.ChangeShapes Go.WideShapes Go.ChangeAt Go.RowKit

set_option maxHeartbeats 1600000 in
set_option maxRecDepth 100000 in
theorem dflt_any (k : KeyV) (w : World) (hT : Tab w) (hU : Units w) (hM : MaxI w) (hs : k.dflt.size ≤ maxLen) :
    Calls Tryz.prog 63 #[kAgg k] w fun e w' => e = .returned (.bool (dfltK k)) ∧ Below w.heap.size w w' := by
  obtain ⟨nm, kd, dl, a, b, le⟩ := k
  have HW : Hid (∀ o, Below w.heap.size w (w.alloc o)) := Lib.hid (below_one w)
  have HP : Hid (∀ o, Calls Tryz.prog 89 #[.int .i64 kd, .string dl] (w.alloc o) (ParseRes (w.alloc o) (parseV kd dl))) := Lib.hid fun o => parse_any kd dl _ (hT.below (below_one w o)) (hU.below (below_one w o)) (hM.below (below_one w o)) hs
  have HWI : Hid (∀ w1 v x c, Below w.heap.size w w1 → ArgOk w1 v x c → Calls Tryz.prog 87 #[argV v x c, .int .i64 a, .int .i64 b] w1 fun e w' => e = .returned (.bool (withinV v a b)) ∧ Below w1.heap.size w1 w') := Lib.hid fun w1 v x c hb ha => within_any w1 v a b x c ha (hT.below hb)
  have HD : Hid (dfltK ⟨nm, kd, dl, a, b, le⟩ = (decide ((parseV kd dl).2 = 0) && withinV (parseV kd dl).1 a b)) := Lib.hid rfl
  have HB : Hid ((parseV kd dl).2 = 0 → (parseV kd dl).1.words.length ≤ 16 ∧ (∀ k (h : k < (parseV kd dl).1.words.length), (parseV kd dl).1.words[k].size ≤ 200) ∧ (parseV kd dl).1.text.size ≤ 200) := Lib.hid fun h => right_bounds (read_right h).1
  obtain ⟨r, hr⟩ : ∃ r, dfltK ⟨nm, kd, dl, a, b, le⟩ = r := ⟨_, rfl⟩
  rw [hr] at HD ⊢
  obtain ⟨p, hp⟩ : ∃ p, parseV kd dl = p := ⟨_, rfl⟩
  rw [hp] at HP HD HB
  obtain ⟨⟨vk, vn, vt, vw⟩, er⟩ := p
  unfold kAgg
  clear hT hU hM hr hp hs
  simp only at HD HB ⊢
  go_enter Tryz.func63, Tryz.ntmps63
  go_wp2_with fail
  refine (HP.out _).mono ?_
  rintro e w1 ⟨hb1, x, cap, rfl, ho⟩
  have hbx := (box6_new w ⟨nm, kd, dl, a, b, le⟩ _).below hb1
  have c3 : ∀ o, (w1.alloc o).cell? ⟨w.heap.size, 3, none⟩ = some (.int .i64 a) := fun o => (hbx.below (below_one w1 o)).c3
  have c4 : ∀ o, (w1.alloc o).cell? ⟨w.heap.size, 4, none⟩ = some (.int .i64 b) := fun o => (hbx.below (below_one w1 o)).c4
  have HB1 : Hid (∀ o, Below w.heap.size w (w1.alloc o)) := Lib.hid fun o => ((HW.out _).trans (hb1.mono (HW.out _).size)).trans ((below_one w1 o).mono (Nat.le_trans (HW.out _).size hb1.size))
  clear hbx
  have HO := Lib.hid ho
  clear hb1 ho
  by_cases he : er = 0
  · obtain ⟨b1, b2, b3⟩ := HB.out he
    have HA : Hid (∀ o, Calls Tryz.prog 87 #[argV ⟨vk, vn, vt, vw⟩ x cap, .int .i64 a, .int .i64 b] (w1.alloc o) fun e w' => e = .returned (.bool (withinV ⟨vk, vn, vt, vw⟩ a b)) ∧ Below (w1.alloc o).heap.size (w1.alloc o) w') := Lib.hid fun o => HWI.out (w1.alloc o) ⟨vk, vn, vt, vw⟩ x cap (HB1.out o) ((HO.out.arg (v := ⟨vk, vn, vt, vw⟩) (by show vw.length ≤ _; omega) (fun k hk => Nat.le_trans (b2 k hk) (by decide)) (Nat.le_trans b3 (by decide))).below (below_one w1 o))
    unfold argV at HA
    simp only at HA
    rw [decide_eq_true he, Bool.true_and] at HD
    obtain ⟨rw, hrw⟩ : ∃ rw, withinV ⟨vk, vn, vt, vw⟩ a b = rw := ⟨_, rfl⟩
    rw [hrw] at HA HD
    subst he
    clear b1 b2 b3 HB hrw HWI HP HO
    go_wp2_with fail
    refine (HA.out _).mono ?_
    rintro e w2 ⟨rfl, hb2⟩
    have HB2 := Lib.hid ((HB1.out _).trans (hb2.mono (HB1.out _).size))
    clear hb2
    go_wp2
    go_ret
    exact ⟨by rw [HD.out]; first | done | rfl, HB2.out⟩
  · have d0 : (er == 0) = false := beq_eq_false_iff_ne.2 he
    rw [decide_eq_false he, Bool.false_and] at HD
    clear HB HWI HP HO he
    go_wp2
    go_ret
    exact ⟨by rw [HD.out]; first | done | rfl, HB1.out _⟩

set_option maxRecDepth 100000 in
theorem clip_any (x : Option Addr) (n c : Nat) (w : World) (hc : n ≤ c) :
    Calls Tryz.prog 65 #[.slice x n c] w fun e w' => e = .returned (.slice x n n) ∧ w = w' := by
  have q1 : (n : Int) ≤ c := by omega
  have q2 : (0 : Int) ≤ n := by omega
  go_enter Tryz.func65, Tryz.ntmps65
  go_wp2
  go_ret
  exact ⟨rfl, rfl⟩

theorem Box6.put {w : World} {R : Nat} {k : KeyV} (h : Box6 w R k) (i : Nat) (u : Value) (hu : w.cell? ⟨R, i, none⟩ = some u) : Box6 (w.setCell ⟨R, i, none⟩ u) R k := by
  have c : ∀ j v, w.cell? ⟨R, j, none⟩ = some v → (w.setCell ⟨R, i, none⟩ u).cell? ⟨R, j, none⟩ = some v := fun j v hv => by
    by_cases hij : i = j
    · subst hij
      rw [hu] at hv
      rw [← hv]
      exact World.cell?_setCell_same _ _ _ hu
    · rw [World.cell?_setCell_other _ _ _ _ (fun e => hij (by injection e))]; exact hv
  exact ⟨c 0 _ h.c0, c 1 _ h.c1, c 2 _ h.c2, c 3 _ h.c3, c 4 _ h.c4, c 5 _ h.c5, fun j hj => by rw [World.frozen?_setCell]; exact h.fz j hj⟩
/-- The parameter of 'copied', and its result, in their blocks. -/
structure CP (w W : World) (R : Nat) (k : KeyV) : Prop where
  box : Box6 W R k
  res : Box6 W (R + 1) kZero
  below : Below R w W
theorem CP.below' {w W W' : World} {R : Nat} {k : KeyV} (h : CP w W R k) (hb : Below W.heap.size W W') : CP w W' R k := ⟨h.box.below hb, h.res.below hb, h.below.trans (hb.mono (Nat.le_of_lt h.box.lt))⟩
theorem CP.put {w W : World} {R : Nat} {k : KeyV} (h : CP w W R k) (i : Nat) (u : Value) (hu : W.cell? ⟨R, i, none⟩ = some u) : CP w (W.setCell ⟨R, i, none⟩ u) R k := by
  have ne : ∀ j, (⟨R, i, none⟩ : Addr) ≠ ⟨R + 1, j, none⟩ := fun j e => by injection e with e _ _; omega
  have c : ∀ j, (W.setCell ⟨R, i, none⟩ u).cell? ⟨R + 1, j, none⟩ = W.cell? ⟨R + 1, j, none⟩ := fun j => World.cell?_setCell_other _ _ _ _ (ne j)
  refine ⟨h.box.put i u hu, ⟨by rw [c]; exact h.res.c0, by rw [c]; exact h.res.c1, by rw [c]; exact h.res.c2, by rw [c]; exact h.res.c3, by rw [c]; exact h.res.c4, by rw [c]; exact h.res.c5, fun j hj => by rw [World.frozen?_setCell]; exact h.res.fz j hj⟩, h.below.setCell (p := ⟨R, i, none⟩) (Nat.le_refl _) _⟩
theorem CP.new (w : World) (k : KeyV) (t t2 : TypeId) : CP w ((w.alloc (Obj.cells #[.string k.name, .int .i64 k.kind, .string k.dflt, .int .i64 k.least, .int .i64 k.most, .string k.letter] t)).alloc (Obj.cells #[.string ⟨#[]⟩, .int .i64 0, .string ⟨#[]⟩, .int .i64 0, .int .i64 0, .string ⟨#[]⟩] t2)) w.heap.size k := by
  refine ⟨(box6_new w k t).below (below_one _ _), ?_, (below_one w _).trans ((below_one _ _).mono (by simp))⟩
  have h := box6_new (w.alloc (Obj.cells #[.string k.name, .int .i64 k.kind, .string k.dflt, .int .i64 k.least, .int .i64 k.most, .string k.letter] t)) kZero t2
  rw [show (w.alloc (Obj.cells #[.string k.name, .int .i64 k.kind, .string k.dflt, .int .i64 k.least, .int .i64 k.most, .string k.letter] t)).heap.size = w.heap.size + 1 by simp] at h
  exact h
set_option maxHeartbeats 1600000 in
set_option maxRecDepth 100000 in
theorem copied_any (k : KeyV) (w : World) (h1 : k.name.size ≤ 281474976710656) (h2 : k.dflt.size ≤ 281474976710656) (h3 : k.letter.size ≤ 281474976710656) :
    Calls Tryz.prog 66 #[kAgg k] w fun e w' => e = .returned (kAgg k) ∧ Below w.heap.size w w' := by
  obtain ⟨nm, kd, dl, a, b, le⟩ := k
  have HC0 : Hid (∀ t t2, CP w ((w.alloc (Obj.cells #[.string nm, .int .i64 kd, .string dl, .int .i64 a, .int .i64 b, .string le] t)).alloc (Obj.cells #[.string ⟨#[]⟩, .int .i64 0, .string ⟨#[]⟩, .int .i64 0, .int .i64 0, .string ⟨#[]⟩] t2)) w.heap.size ⟨nm, kd, dl, a, b, le⟩) := Lib.hid fun t t2 => CP.new w ⟨nm, kd, dl, a, b, le⟩ t t2
  unfold kAgg
  simp only at h1 h2 h3 ⊢
  go_enter Tryz.func66, Tryz.ntmps66
  go_wp2_with fail
  refine (clone_any nm _ h1).mono ?_
  rintro e w1 ⟨rfl, hb1⟩
  have HC1 := Lib.hid ((HC0.out _ _).below' hb1)
  clear hb1 HC0
  have a0 : w1.cell? ⟨w.heap.size, 0, none⟩ = some (.string nm) := HC1.out.box.c0
  have f0 : w1.frozen? ⟨w.heap.size, 0, none⟩ = false := HC1.out.box.fz 0 (by decide)
  have a2 : w1.cell? ⟨w.heap.size, 2, none⟩ = some (.string dl) := HC1.out.box.c2
  go_wp2_with fail
  refine (clone_any dl _ h2).mono ?_
  rintro e w2 ⟨rfl, hb2⟩
  have HC2 := Lib.hid ((HC1.out.put 0 _ HC1.out.box.c0).below' hb2)
  clear hb2 HC1 a0 f0 a2
  have a2 : w2.cell? ⟨w.heap.size, 2, none⟩ = some (.string dl) := HC2.out.box.c2
  have f2 : w2.frozen? ⟨w.heap.size, 2, none⟩ = false := HC2.out.box.fz 2 (by decide)
  have a5 : w2.cell? ⟨w.heap.size, 5, none⟩ = some (.string le) := HC2.out.box.c5
  go_wp2_with fail
  refine (clone_any le _ h3).mono ?_
  rintro e w3 ⟨rfl, hb3⟩
  have HC3 := Lib.hid ((HC2.out.put 2 _ HC2.out.box.c2).below' hb3)
  clear hb3 HC2 a2 f2 a5
  have HC4 := Lib.hid (HC3.out.put 5 _ HC3.out.box.c5)
  have s5 : w3.cell? ⟨w.heap.size, 5, none⟩ = some (.string le) := HC3.out.box.c5
  have t5 : w3.frozen? ⟨w.heap.size, 5, none⟩ = false := HC3.out.box.fz 5 (by decide)
  have HS6 : Hid (Box6 (set6 (w3.setCell ⟨w.heap.size, 5, none⟩ (.string le)) (w.heap.size + 1) ⟨nm, kd, dl, a, b, le⟩) (w.heap.size + 1) ⟨nm, kd, dl, a, b, le⟩ ∧ Below w.heap.size w (set6 (w3.setCell ⟨w.heap.size, 5, none⟩ (.string le)) (w.heap.size + 1) ⟨nm, kd, dl, a, b, le⟩)) := Lib.hid ⟨HC4.out.res.set6 _, below_set6 HC4.out.below (Nat.le_succ _) _⟩
  have r0 : w3.cell? ⟨w.heap.size, 0, none⟩ = some (.string nm) := HC3.out.box.c0
  have r1 : w3.cell? ⟨w.heap.size, 1, none⟩ = some (.int .i64 kd) := HC3.out.box.c1
  have r2 : w3.cell? ⟨w.heap.size, 2, none⟩ = some (.string dl) := HC3.out.box.c2
  have r3 : w3.cell? ⟨w.heap.size, 3, none⟩ = some (.int .i64 a) := HC3.out.box.c3
  have r4 : w3.cell? ⟨w.heap.size, 4, none⟩ = some (.int .i64 b) := HC3.out.box.c4
  have r6 : (w3.setCell ⟨w.heap.size, 5, none⟩ (.string le)).cell? ⟨w.heap.size, 5, none⟩ = some (.string le) := HC4.out.box.c5
  obtain ⟨b0, b1, b2, b3, b4, b5, bf⟩ := HC3.out.res
  have f0 := bf 0 (by decide)
  have f1 := bf 1 (by decide)
  have f2 := bf 2 (by decide)
  have f3 := bf 3 (by decide)
  have f4 := bf 4 (by decide)
  have f5 := bf 5 (by decide)
  obtain ⟨g0, g1, g2, g3, g4, g5, _⟩ := HS6.out.1
  have HF := Lib.hid HS6.out.2
  unfold kZero at b0 b1 b2 b3 b4 b5
  unfold set6 at g0 g1 g2 g3 g4 g5 HF
  simp only at b0 b1 b2 b3 b4 b5 g0 g1 g2 g3 g4 g5 HF
  clear bf HS6 HC3 HC4
  go_wp2
  exact bodyPost_ret (v := .agg #[.string nm, .int .i64 kd, .string dl, .int .i64 a, .int .i64 b, .string le]) (by simp [results, Tryz.results66, go_sem, g0, g1, g2, g3, g4, g5]) rfl ⟨rfl, HF.out⟩
end Go.Proofs.YtopghlnoklajkaaGreatDoor
