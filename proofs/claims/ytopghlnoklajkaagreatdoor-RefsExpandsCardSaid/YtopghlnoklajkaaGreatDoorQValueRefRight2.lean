/-
  ValueRefRight, ValueRefRight2.
-/
import Derived.Test.YtopghlnoklajkaaGreatDoorQValuePrint
import Derived.Test.YtopghlnoklajkaaGreatDoorQValueUnited
import Derived.Test.YtopghlnoklajkaaGreatDoorQValueRight
import Derived.Deep.RegionHeld3
import Derived.Deep.QuietTactic
import Derived.BigQuiet
namespace Go.Proofs.YtopghlnoklajkaaGreatDoor
open Go.ChangeShapes Go.WideShapes Go.ChangeAt Go.RowKit

theorem right_text {k n : Int} {t : ByteArray} {xs : List ByteArray} (h5 : ¬ k = 5) (ht : ¬ t.data.toList = []) : rightV ⟨k, n, t, xs⟩ = false := by
 cases hr : rightV ⟨k, n, t, xs⟩ with
 | false => rfl
 | true =>
  rcases right_cases hr with ⟨_, _, h, _⟩ | ⟨_, _, h, _⟩ | ⟨_, _, h, _⟩ | ⟨h, _⟩ | ⟨_, _, h, _⟩
  ·exact absurd h ht
  ·exact absurd h ht
  ·exact absurd h ht
  ·exact absurd h h5
  ·exact absurd h ht
theorem right_words {k n : Int} {t : ByteArray} {xs : List ByteArray} (h6 : ¬ k = 6) (hx : ¬ xs.length = 0) : rightV ⟨k, n, t, xs⟩ = false := by
 cases hr : rightV ⟨k, n, t, xs⟩ with
 | false => rfl
 | true =>
  rcases right_cases hr with ⟨_, _, _, h⟩ | ⟨_, _, _, h⟩ | ⟨_, _, _, h⟩ | ⟨_, _, _, h⟩ | ⟨h, _⟩
  ·exact absurd h hx
  ·exact absurd h hx
  ·exact absurd h hx
  ·exact absurd h hx
  ·exact absurd h h6

set_option maxHeartbeats 1600000 in
set_option maxRecDepth 100000 in
theorem refRight_text (w : World) (k n : Int) (t : ByteArray) (xs : List ByteArray) (x : Option Addr) (c : Nat) (h5 : ¬ k = 5) (ht : ¬ t.data.toList = []) :
  Calls Tryz.prog 107 #[.agg #[.int .i64 k, .int .i64 n, .string t, .slice x xs.length c]] w fun e w' => e = .returned (.bool (rightV ⟨k, n, t, xs⟩)) ∧ Below w.heap.size w w' := by
 have hb0 : Hid (∀ o, Below w.heap.size w (w.alloc o)) := Lib.hid fun o => (Below.refl _ _).alloc (Nat.le_refl _) o
 have HV := Lib.hid (right_text (n := n) (xs := xs) h5 ht)
 have d1 : (k != 5) = true := ne_true h5
 have d2 := emp_false' ht
 clear h5 ht
 go_enter Tryz.func107, Tryz.ntmps107
 go_wp2
 go_ret
 exact ⟨ret_bool HV.out, hb0.out _⟩

set_option maxHeartbeats 1600000 in
set_option maxRecDepth 100000 in
theorem refRight_words (w : World) (k n : Int) (t : ByteArray) (xs : List ByteArray) (x : Option Addr) (c : Nat) (h5 : k = 5 ∨ t.data.toList = []) (h6 : ¬ k = 6) (hx : ¬ xs.length = 0) :
  Calls Tryz.prog 107 #[.agg #[.int .i64 k, .int .i64 n, .string t, .slice x xs.length c]] w fun e w' => e = .returned (.bool (rightV ⟨k, n, t, xs⟩)) ∧ Below w.heap.size w w' := by
 have hb0 : Hid (∀ o, Below w.heap.size w (w.alloc o)) := Lib.hid fun o => (Below.refl _ _).alloc (Nat.le_refl _) o
 have HV := Lib.hid (right_words (n := n) (t := t) h6 hx)
 have d3 : (k != 6) = true := ne_true h6
 have d4 : decide ((0 : Int) < xs.length) = true := decide_eq_true (by omega)
 have d5 : (0 : Int) < xs.length := by omega
 clear h6 hx
 by_cases h : k = 5
 ·have d1 : (k != 5) = false := ne_false h
  clear h h5
  go_enter Tryz.func107, Tryz.ntmps107
  go_wp2
  go_ret
  exact ⟨ret_bool HV.out, hb0.out _⟩
 ·have d1 : (k != 5) = true := ne_true h
  have ht : t.data.toList = [] := h5.resolve_left h
  have e : t = ⟨#[]⟩ := by rw [← mkB_self t, ht]; rfl
  subst e
  clear h h5 ht
  go_enter Tryz.func107, Tryz.ntmps107
  go_wp2
  go_ret
  exact ⟨ret_bool HV.out, hb0.out _⟩

set_option maxHeartbeats 1600000 in
set_option maxRecDepth 100000 in
theorem refRight_one (w : World) (n : Int) (x : Option Addr) (c : Nat) :
  Calls Tryz.prog 107 #[.agg #[.int .i64 1, .int .i64 n, .string ⟨#[]⟩, .slice x 0 c]] w fun e w' => e = .returned (.bool (rightV ⟨1, n, ⟨#[]⟩, []⟩)) ∧ Below w.heap.size w w' := by
 have hb0 : Hid (∀ o, Below w.heap.size w (w.alloc o)) := Lib.hid fun o => (Below.refl _ _).alloc (Nat.le_refl _) o
 have HR : rightV ⟨1, n, ⟨#[]⟩, []⟩ = decide (0 ≤ n ∧ n ≤ 1) := by unfold rightV; rw [if_pos rfl]; simp
 by_cases h0 : n = 0
 ·have HV : Hid (rightV ⟨1, n, ⟨#[]⟩, []⟩ = true) := Lib.hid (by rw [HR]; exact decide_eq_true (by omega))
  have d1 : (n == 0) = true := beq_iff_eq.2 h0
  clear HR h0
  go_enter Tryz.func107, Tryz.ntmps107
  go_wp2
  go_ret
  exact ⟨ret_bool HV.out, hb0.out _⟩
 have d1 : (n == 0) = false := beq_eq_false_iff_ne.2 h0
 by_cases h1 : n = 1
 ·have HV : Hid (rightV ⟨1, n, ⟨#[]⟩, []⟩ = true) := Lib.hid (by rw [HR]; exact decide_eq_true (by omega))
  have d2 : (n == 1) = true := beq_iff_eq.2 h1
  clear HR h0 h1
  go_enter Tryz.func107, Tryz.ntmps107
  go_wp2
  go_ret
  exact ⟨ret_bool HV.out, hb0.out _⟩
 ·have HV : Hid (rightV ⟨1, n, ⟨#[]⟩, []⟩ = false) := Lib.hid (by rw [HR]; exact decide_eq_false (by omega))
  have d2 : (n == 1) = false := beq_eq_false_iff_ne.2 h1
  clear HR h0 h1
  go_enter Tryz.func107, Tryz.ntmps107
  go_wp2
  go_ret
  exact ⟨ret_bool HV.out, hb0.out _⟩

set_option maxHeartbeats 1600000 in
set_option maxRecDepth 100000 in
theorem refRight_int (w : World) (n : Int) (x : Option Addr) (c : Nat) :
  Calls Tryz.prog 107 #[.agg #[.int .i64 2, .int .i64 n, .string ⟨#[]⟩, .slice x 0 c]] w fun e w' => e = .returned (.bool (rightV ⟨2, n, ⟨#[]⟩, []⟩)) ∧ Below w.heap.size w w' := by
 have hb0 : Hid (∀ o, Below w.heap.size w (w.alloc o)) := Lib.hid fun o => (Below.refl _ _).alloc (Nat.le_refl _) o
 have HR : rightV ⟨2, n, ⟨#[]⟩, []⟩ = decide (-4611686018427387904 ≤ n ∧ n ≤ 4611686018427387904) := by unfold rightV; rw [if_neg (by simp), if_pos rfl]; simp
 by_cases h0 : -4611686018427387904 ≤ n
 ·have d1 : decide (-4611686018427387904 ≤ n) = true := decide_eq_true h0
  by_cases h1 : n ≤ 4611686018427387904
  ·have HV : Hid (rightV ⟨2, n, ⟨#[]⟩, []⟩ = true) := Lib.hid (by rw [HR]; exact decide_eq_true ⟨h0, h1⟩)
   have d2 : decide (n ≤ 4611686018427387904) = true := decide_eq_true h1
   clear HR h0 h1
   go_enter Tryz.func107, Tryz.ntmps107
   go_wp2
   go_ret
   exact ⟨ret_bool HV.out, hb0.out _⟩
  ·have HV : Hid (rightV ⟨2, n, ⟨#[]⟩, []⟩ = false) := Lib.hid (by rw [HR]; exact decide_eq_false (fun h => h1 h.2))
   have d2 : decide (n ≤ 4611686018427387904) = false := decide_eq_false h1
   clear HR h0 h1
   go_enter Tryz.func107, Tryz.ntmps107
   go_wp2
   go_ret
   exact ⟨ret_bool HV.out, hb0.out _⟩
 ·have HV : Hid (rightV ⟨2, n, ⟨#[]⟩, []⟩ = false) := Lib.hid (by rw [HR]; exact decide_eq_false (fun h => h0 h.1))
  have d1 : decide (-4611686018427387904 ≤ n) = false := decide_eq_false h0
  clear HR h0
  go_enter Tryz.func107, Tryz.ntmps107
  go_wp2
  go_ret
  exact ⟨ret_bool HV.out, hb0.out _⟩

set_option maxHeartbeats 1600000 in
set_option maxRecDepth 100000 in
theorem refRight_none (w : World) (k n : Int) (x : Option Addr) (c : Nat) (g1 : ¬ k = 1) (g2 : ¬ k = 2) (g3 : ¬ k = 3) (g4 : ¬ k = 4) (g5 : ¬ k = 5) (g6 : ¬ k = 6) :
  Calls Tryz.prog 107 #[.agg #[.int .i64 k, .int .i64 n, .string ⟨#[]⟩, .slice x 0 c]] w fun e w' => e = .returned (.bool (rightV ⟨k, n, ⟨#[]⟩, []⟩)) ∧ Below w.heap.size w w' := by
 have hb0 : Hid (∀ o, Below w.heap.size w (w.alloc o)) := Lib.hid fun o => (Below.refl _ _).alloc (Nat.le_refl _) o
 have HV : Hid (rightV ⟨k, n, ⟨#[]⟩, []⟩ = false) := Lib.hid (by unfold rightV; rw [if_neg g1, if_neg g2, if_neg (by simp only; omega), if_neg g5, if_neg g6])
 have e1 : (k == 1) = false := beq_eq_false_iff_ne.2 g1
 have e2 : (k == 2) = false := beq_eq_false_iff_ne.2 g2
 have e3 : (k == 3) = false := beq_eq_false_iff_ne.2 g3
 have e4 : (k == 4) = false := beq_eq_false_iff_ne.2 g4
 have e5 : (k == 5) = false := beq_eq_false_iff_ne.2 g5
 have e6 : (k == 6) = false := beq_eq_false_iff_ne.2 g6
 have f5 : (k != 5) = true := ne_true g5
 have f6 : (k != 6) = true := ne_true g6
 clear g1 g2 g3 g4 g5 g6
 go_enter Tryz.func107, Tryz.ntmps107
 go_wp2
 go_ret
 exact ⟨ret_bool HV.out, hb0.out _⟩
end Go.Proofs.YtopghlnoklajkaaGreatDoor

namespace Go.Proofs.YtopghlnoklajkaaGreatDoor
open Go.ChangeShapes Go.WideShapes Go.ChangeAt Go.RowKit

set_option maxHeartbeats 1600000 in
set_option maxRecDepth 100000 in
theorem refRight_num (w : World) (k n : Int) (x : Option Addr) (c : Nat) (hk : k = 3 ∨ k = 4) :
    Calls Tryz.prog 107 #[.agg #[.int .i64 k, .int .i64 n, .string ⟨#[]⟩, .slice x 0 c]] w fun e w' => e = .returned (.bool (rightV ⟨k, n, ⟨#[]⟩, []⟩)) ∧ Below w.heap.size w w' := by
  have hb0 : Hid (∀ o q, Below w.heap.size w ((w.alloc o).drewN q)) := Lib.hid fun o q => ((Below.refl _ _).alloc (Nat.le_refl _) o).trans ((below_drewN (w.alloc o) q).mono (by simp))
  have HR : rightV ⟨k, n, ⟨#[]⟩, []⟩ = decide (0 ≤ n ∧ n ≤ mostV k) := by unfold rightV; rcases hk with rfl | rfl <;> simp
  by_cases h0 : 0 ≤ n
  · have d1 : decide (0 ≤ n) = true := decide_eq_true h0
    have HV : Hid (rightV ⟨k, n, ⟨#[]⟩, []⟩ = decide (n ≤ mostV k)) := Lib.hid (by rw [HR]; simp [h0])
    clear HR
    rcases hk with rfl | rfl
    all_goals
      go_enter Tryz.func107, Tryz.ntmps107
      go_wp2
      first
        | (go_region_law ((go_simp; (with_reducible refine (refMost_any _ _).mono ?_); rintro e w2 ⟨rfl, rfl⟩; dsimp only)))
        | fail
      all_goals
        go_wp2
        go_ret
        exact ⟨ret_bool HV.out, hb0.out _ 1⟩
  · have HV : Hid (rightV ⟨k, n, ⟨#[]⟩, []⟩ = false) := Lib.hid (by rw [HR]; exact decide_eq_false (fun h => h0 h.1))
    have d1 : decide (0 ≤ n) = false := decide_eq_false h0
    clear HR h0
    rcases hk with rfl | rfl
    all_goals
      go_enter Tryz.func107, Tryz.ntmps107
      go_wp2
      first
        | (go_region_law ((go_simp; (with_reducible refine (refMost_any _ _).mono ?_); rintro e w2 ⟨rfl, rfl⟩; dsimp only)))
        | fail
      all_goals
        go_wp2
        go_ret
        exact ⟨ret_bool HV.out, hb0.out _ 1⟩

theorem text_is_nil {t : ByteArray} (h : t.data.toList = []) : t = ⟨#[]⟩ := by rw [← mkB_self t, h]; rfl

set_option maxHeartbeats 1600000 in
set_option maxRecDepth 100000 in
theorem refRight_five (w : World) (n : Int) (t : ByteArray) (x : Option Addr) (c : Nat) (ht : t.size ≤ maxLen) :
    Calls Tryz.prog 107 #[.agg #[.int .i64 5, .int .i64 n, .string t, .slice x 0 c]] w fun e w' => e = .returned (.bool (rightV ⟨5, n, t, []⟩)) ∧ Below w.heap.size w w' := by
  have HR : rightV ⟨5, n, t, []⟩ = (decide (n = 0) && decide (textV t.data.toList = 0)) := by unfold rightV; simp
  have HS := Lib.hid ht
  have HBX : Hid (∀ p, Box4 (w.alloc (.cells #[.int .i64 5, .int .i64 n, .string t, .slice x 0 c] p)) w.heap.size (.int .i64 5) (.int .i64 n) (.string t) (.slice x 0 c) ∧ Below w.heap.size w (w.alloc (.cells #[.int .i64 5, .int .i64 n, .string t, .slice x 0 c] p))) := Lib.hid fun p => ⟨box4_new w _ _ _ _ p, (Below.refl _ _).alloc (Nat.le_refl _) _⟩
  clear ht
  obtain ⟨q, hq⟩ : ∃ q, textR t = q := ⟨_, rfl⟩
  have he : q.2 = textV t.data.toList := by rw [← hq]; unfold textR; split <;> simp_all
  have HQ := Lib.hid hq
  obtain ⟨⟨pk, pn, pt, pw⟩, pe⟩ := q
  simp only at he
  clear hq
  have HB0 := Lib.hid he
  clear he
  by_cases hp : pe = 0
  · have d1 : (pe == 0) = true := beq_iff_eq.2 hp
    have HP := Lib.hid hp
    clear hp
    by_cases h0 : n = 0
    · have d2 : (n == 0) = true := beq_iff_eq.2 h0
      have HV : Hid (rightV ⟨5, n, t, []⟩ = true) := Lib.hid (by rw [HR, decide_eq_true h0, decide_eq_true (by rw [← HB0.out]; exact HP.out)]; rfl)
      clear HR h0
      go_enter Tryz.func107, Tryz.ntmps107
      go_wp2_with fail
      refine (refText_any _ _ HS.out).mono ?_
      rintro e w1 ⟨rfl, hb⟩
      rw [HQ.out]
      unfold numR
      obtain ⟨c0, c1, c2, c3, z0, z1, z2, z3⟩ := (HBX.out 48).1.below hb
      have HB := Lib.hid ((HBX.out 48).2.trans (hb.mono (HBX.out 48).2.size))
      clear hb
      have hlt : w.heap.size < w1.heap.size := lt_of_cell c0
      go_wp2
      go_ret
      exact ⟨ret_bool HV.out, HB.out.alloc HB.out.size _⟩
    · have d2 : (n == 0) = false := beq_eq_false_iff_ne.2 h0
      have HV : Hid (rightV ⟨5, n, t, []⟩ = false) := Lib.hid (by rw [HR, decide_eq_false h0]; rfl)
      clear HR h0
      go_enter Tryz.func107, Tryz.ntmps107
      go_wp2_with fail
      refine (refText_any _ _ HS.out).mono ?_
      rintro e w1 ⟨rfl, hb⟩
      rw [HQ.out]
      unfold numR
      obtain ⟨c0, c1, c2, c3, z0, z1, z2, z3⟩ := (HBX.out 48).1.below hb
      have HB := Lib.hid ((HBX.out 48).2.trans (hb.mono (HBX.out 48).2.size))
      clear hb
      have hlt : w.heap.size < w1.heap.size := lt_of_cell c0
      go_wp2
      go_ret
      exact ⟨ret_bool HV.out, HB.out.alloc HB.out.size _⟩
  · have d1 : (pe == 0) = false := beq_eq_false_iff_ne.2 hp
    have HV : Hid (rightV ⟨5, n, t, []⟩ = false) := Lib.hid (by rw [HR, decide_eq_false (p := textV t.data.toList = 0) (by rw [← HB0.out]; exact hp)]; simp)
    clear HR hp
    go_enter Tryz.func107, Tryz.ntmps107
    go_wp2_with fail
    refine (refText_any _ _ HS.out).mono ?_
    rintro e w1 ⟨rfl, hb⟩
    rw [HQ.out]
    unfold numR
    obtain ⟨c0, c1, c2, c3, z0, z1, z2, z3⟩ := (HBX.out 48).1.below hb
    have HB := Lib.hid ((HBX.out 48).2.trans (hb.mono (HBX.out 48).2.size))
    clear hb
    have hlt : w.heap.size < w1.heap.size := lt_of_cell c0
    go_wp2
    go_ret
    exact ⟨ret_bool HV.out, HB.out.alloc HB.out.size _⟩

def wsum (xs : List ByteArray) : Nat := (xs.map ByteArray.size).sum
theorem wsum_snoc (xs : List ByteArray) (k : Nat) (h : k < xs.length) : wsum (xs.take (k + 1)) = wsum (xs.take k) + xs[k].size := by
  unfold wsum
  rw [List.take_succ_eq_append_getElem h, List.map_append, List.sum_append]; simp
theorem joinTail_sum (xs : List ByteArray) : (Lib.joinTail [44] (wl xs)).length = wsum xs + xs.length := by
  induction xs with
  | nil => rfl
  | cons a r ih =>
    rw [show wl (a :: r) = a.data.toList :: wl r from rfl]
    have e : (Lib.joinTail [44] (a.data.toList :: wl r)).length = a.data.toList.length + 1 + (Lib.joinTail [44] (wl r)).length := by
      unfold Lib.joinTail
      rw [List.map_cons, List.flatten_cons, List.length_append, List.length_append]
      simp only [List.length_cons, List.length_nil]
      omega
    have h2 : a.data.toList.length = a.size := by simp
    have h3 : wsum (a :: r) = a.size + wsum r := by unfold wsum; rw [List.map_cons, List.sum_cons]
    rw [e, ih, h3, List.length_cons]
    omega
theorem join_sum (xs : List ByteArray) (h : 0 < xs.length) : ((joinW xs).length : Int) = xs.length - 1 + wsum xs := by
  cases xs with
  | nil => simp at h
  | cons a r =>
    unfold joinW
    rw [show wl (a :: r) = a.data.toList :: wl r from rfl, Lib.join_cons, List.length_append, joinTail_sum]
    have : a.data.toList.length = a.size := by simp
    simp only [wsum, List.map_cons, List.sum_cons, List.length_cons]
    omega
theorem wl_more (xs : List ByteArray) (k : Nat) (h : k < xs.length) : wl (xs.take (k + 1)) = wl (xs.take k) ++ [xs[k].data.toList] := by
  unfold wl
  rw [List.take_succ_eq_append_getElem h, List.map_append]; rfl
theorem six_end (n : Int) (xs : List ByteArray) (ha : allWords (wl xs) = true) : rightV ⟨6, n, ⟨#[]⟩, xs⟩ = (decide (n = 0) && decide ((xs.length : Int) ≤ 16) && decide ((xs.length : Int) - 1 + wsum xs ≤ 200)) := by
  have h1 : rightV ⟨6, n, ⟨#[]⟩, xs⟩ = (decide (n = 0) && wordsRight xs) := by unfold rightV; simp
  rw [h1]
  unfold wordsRight
  rw [ha]
  have e1 : decide (xs.length ≤ 16) = decide ((xs.length : Int) ≤ 16) := decide_eq_decide.2 (by omega)
  have e2 : decide ((joinW xs).length ≤ 200) = decide ((xs.length : Int) - 1 + wsum xs ≤ 200) := by
    rcases Nat.eq_zero_or_pos xs.length with h | h
    · have : xs = [] := List.eq_nil_of_length_eq_zero h
      subst this
      rfl
    · exact decide_eq_decide.2 (by rw [← join_sum xs h]; omega)
  rw [e1, e2, Bool.and_true, Bool.and_assoc]
theorem six_bad (n : Int) (xs : List ByteArray) (k : Nat) (hk : k < xs.length) (hb : wordB xs[k].data.toList = false) : rightV ⟨6, n, ⟨#[]⟩, xs⟩ = false := by
  cases hr : rightV ⟨6, n, ⟨#[]⟩, xs⟩ with
  | false => rfl
  | true =>
    rcases right_cases hr with ⟨h, _⟩ | ⟨h, _⟩ | ⟨h, _⟩ | ⟨h, _⟩ | ⟨_, _, _, _, h, _⟩
    · simp at h
    · simp at h
    · simp at h
    · simp at h
    · have hm : xs[k].data.toList ∈ wl xs := List.mem_map.2 ⟨_, List.getElem_mem hk, rfl⟩
      have := List.all_eq_true.1 h _ hm
      rw [hb] at this; cases this
theorem word_small {l : List UInt8} (h : wordB l = true) : l.length ≤ 32 := by
  unfold wordB at h
  simp only [Bool.and_eq_true, decide_eq_true_eq] at h
  omega

set_option maxHeartbeats 3200000 in
set_option maxRecDepth 100000 in
theorem refRight_six (w : World) (n : Int) (xs : List ByteArray) (x : Option Addr) (c : Nat) (hx : Txts w x xs) (hl : xs.length ≤ 2147483647) (hz : ∀ k (h : k < xs.length), xs[k].size ≤ maxLen) :
    Calls Tryz.prog 107 #[.agg #[.int .i64 6, .int .i64 n, .string ⟨#[]⟩, .slice x xs.length c]] w fun e w' => e = .returned (.bool (rightV ⟨6, n, ⟨#[]⟩, xs⟩)) ∧ Below w.heap.size w w' := by
  have hb0 : Hid (∀ o, Below w.heap.size w (w.alloc o)) := Lib.hid fun o => (Below.refl _ _).alloc (Nat.le_refl _) o
  have HX : Hid (∀ o, Txts (w.alloc o) x xs) := Lib.hid fun o => hx.below (hb0.out o)
  have HZ := Lib.hid hz
  have HE := Lib.hid (six_end n xs)
  have HBD := Lib.hid (six_bad n xs)
  have HWL := Lib.hid (wl_more xs)
  have HWS := Lib.hid (wsum_snoc xs)
  obtain ⟨R, hR⟩ : ∃ R, rightV ⟨6, n, ⟨#[]⟩, xs⟩ = R := ⟨_, rfl⟩
  rw [hR] at HE HBD ⊢
  obtain ⟨N, hN⟩ : ∃ N, xs.length = N := ⟨_, rfl⟩
  have HN := Lib.hid hN
  have HT0 : Hid (wsum (xs.take 0) = 0 ∧ allWords (wl (xs.take 0)) = true) := Lib.hid ⟨rfl, rfl⟩
  have HTN : Hid (xs.take N = xs) := Lib.hid (by rw [← hN]; exact List.take_length)
  rw [hN] at hl ⊢
  clear hx hz hN hR
  go_enter Tryz.func107, Tryz.ntmps107
  go_wp2
  go_loop [5, 6] (fun a i => ∃ (k S : Nat), k ≤ N ∧ i = .int .i64 k ∧ a = .int .i64 ((N : Int) - 1 + S) ∧ S ≤ 32 * k ∧ Hid (wsum (xs.take k) = S ∧ allWords (wl (xs.take k)) = true)) (fun _ i => N - (intOf i).toNat)
  case atStart => exact ⟨0, 0, by omega, rfl, by simp, by omega, HT0⟩
  case round =>
    obtain ⟨k, S, hk, rfl, rfl, hS, HK⟩ := hrel
    by_cases hlt : k < N
    · have hkx : k < xs.length := by rw [HN.out]; exact hlt
      obtain ⟨b, off, hxe, hbl, hc⟩ := HX.out (Obj.cells #[.int .i64 6, .int .i64 n, .string ⟨#[]⟩, .slice x N c] 48) k hkx
      have hzk := HZ.out k hkx
      have hwk := HWL.out k hkx
      have hsk := HWS.out k hkx
      have hbk := HBD.out k hkx
      generalize xs[k] = t at hc hzk hwk hsk hbk
      have HZK := Lib.hid hzk
      have hzm := hzk
      unfold maxLen at hzm
      have q1 : (0 : Int) ≤ k := by omega
      have q2 : (k : Int) < N := by omega
      subst hxe
      by_cases hb : wordB t.data.toList = true
      · have hsmall := word_small hb
        have hsz : t.size ≤ 32 := by have : t.data.toList.length = t.size := by simp
                                     omega
        have HK2 : Hid (wsum (xs.take (k + 1)) = S + t.size ∧ allWords (wl (xs.take (k + 1))) = true) := Lib.hid ⟨by rw [hsk, HK.out.1], by
          rw [hwk]
          unfold allWords
          rw [List.all_append, show (wl (xs.take k)).all wordB = true from HK.out.2, List.all_cons, hb]; rfl⟩
        have HB := Lib.hid hb
        clear hzk hwk hsk hbk hsmall hb hkx
        go_wp2_with fail
        refine (refIsWord_any _ _ HZK.out).mono ?_
        rintro e w' ⟨rfl, rfl⟩
        rw [HB.out]
        go_wp2
        go_round
        case rel => exact ⟨k + 1, S + t.size, by omega, by go_num, by go_num, by omega, HK2⟩
        case measure => simp [intOf]; omega
      · have hbf : wordB t.data.toList = false := by simpa using hb
        have HV := Lib.hid (hbk hbf)
        have HB := Lib.hid hbf
        clear hzk hwk hsk hbk hb hbf hkx
        go_wp2_with fail
        refine (refIsWord_any _ _ HZK.out).mono ?_
        rintro e w' ⟨rfl, rfl⟩
        rw [HB.out]
        go_wp2
        go_ret
        exact ⟨ret_bool HV.out, hb0.out _⟩
    · have hkn : k = N := by omega
      have HF : Hid (R = (decide (n = 0) && decide ((N : Int) ≤ 16) && decide ((N : Int) - 1 + S ≤ 200))) := Lib.hid (by
        have h1 := HK.out
        rw [hkn, HTN.out] at h1
        rw [HE.out h1.2, h1.1, HN.out])
      have q2 : ¬ (k : Int) < N := by omega
      clear hlt hkn HK
      by_cases h0 : n = 0
      · have d1 : (n == 0) = true := beq_iff_eq.2 h0
        have HF2 : Hid (R = (decide ((N : Int) ≤ 16) && decide ((N : Int) - 1 + S ≤ 200))) := Lib.hid (by rw [HF.out, decide_eq_true h0, Bool.true_and])
        clear h0 HF
        by_cases h16 : (N : Int) ≤ 16
        · have d2 : decide ((N : Int) ≤ 16) = true := decide_eq_true h16
          have HF3 : Hid (R = decide ((N : Int) - 1 + S ≤ 200)) := Lib.hid (by rw [HF2.out, d2, Bool.true_and])
          go_wp2
          go_ret
          exact ⟨ret_bool HF3.out, hb0.out _⟩
        · have d2 : decide ((N : Int) ≤ 16) = false := decide_eq_false h16
          have HF3 : Hid (R = false) := Lib.hid (by rw [HF2.out, d2, Bool.false_and])
          go_wp2
          go_ret
          exact ⟨ret_bool HF3.out, hb0.out _⟩
      · have d1 : (n == 0) = false := beq_eq_false_iff_ne.2 h0
        have HF2 : Hid (R = false) := Lib.hid (by rw [HF.out, decide_eq_false h0, Bool.false_and, Bool.false_and])
        clear h0 HF
        go_wp2
        go_ret
        exact ⟨ret_bool HF2.out, hb0.out _⟩

theorem refRight_any (w : World) (v : Val) (x : Option Addr) (c : Nat) (h : ArgOk w v x c) (hl : v.words.length ≤ 2147483647) :
    Calls Tryz.prog 107 #[argV v x c] w fun e w' => e = .returned (.bool (rightV v)) ∧ Below w.heap.size w w' := by
  obtain ⟨k, n, t, xs⟩ := v
  unfold argV
  by_cases h5 : k = 5
  · subst h5
    by_cases hx : xs.length = 0
    · have : xs = [] := List.eq_nil_of_length_eq_zero hx
      subst this
      exact refRight_five w n t x c h.text
    · exact refRight_words w 5 n t xs x c (Or.inl rfl) (by decide) hx
  by_cases ht : t.data.toList = []
  rotate_left
  · exact refRight_text w k n t xs x c h5 ht
  by_cases h6 : k = 6
  · subst h6
    rw [text_is_nil ht]
    exact refRight_six w n xs x c h.list hl h.sizes
  by_cases hx : xs.length = 0
  rotate_left
  · exact refRight_words w k n t xs x c (Or.inr ht) h6 hx
  have : xs = [] := List.eq_nil_of_length_eq_zero hx
  subst this
  rw [text_is_nil ht]
  by_cases h1 : k = 1
  · subst h1; exact refRight_one w n x c
  by_cases h2 : k = 2
  · subst h2; exact refRight_int w n x c
  by_cases h3 : k = 3
  · exact refRight_num w k n x c (Or.inl h3)
  by_cases h4 : k = 4
  · exact refRight_num w k n x c (Or.inr h4)
  exact refRight_none w k n x c h1 h2 h3 h4 h5 h6
end Go.Proofs.YtopghlnoklajkaaGreatDoor
