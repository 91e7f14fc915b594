/-
  ValueRefRight.
-/
import Derived.Test.YtbgoooljkdjjhaaGreatDoorQValuePrint
import Derived.Test.YtbgoooljkdjjhaaGreatDoorQValueUnited
import Derived.Test.YtbgoooljkdjjhaaGreatDoorQValueRight
namespace Go.Proofs.YtbgoooljkdjjhaaGreatDoor
open Go.ChangeShapes Go.WideShapes Go.ChangeAt Go.RowKit

theorem right_text {k n : Int} {t : ByteArray} {xs : List ByteArray} (h5 : ¬ k = 5) (ht : ¬ t.data.toList = []) : rightV ⟨k, n, t, xs⟩ = false := by
  cases hr : rightV ⟨k, n, t, xs⟩ with
  | false => rfl
  | true =>
    rcases right_cases hr with ⟨_, _, h, _⟩ | ⟨_, _, h, _⟩ | ⟨_, _, h, _⟩ | ⟨h, _⟩ | ⟨_, _, h, _⟩
    · exact absurd h ht
    · exact absurd h ht
    · exact absurd h ht
    · exact absurd h h5
    · exact absurd h ht
theorem right_words {k n : Int} {t : ByteArray} {xs : List ByteArray} (h6 : ¬ k = 6) (hx : ¬ xs.length = 0) : rightV ⟨k, n, t, xs⟩ = false := by
  cases hr : rightV ⟨k, n, t, xs⟩ with
  | false => rfl
  | true =>
    rcases right_cases hr with ⟨_, _, _, h⟩ | ⟨_, _, _, h⟩ | ⟨_, _, _, h⟩ | ⟨_, _, _, h⟩ | ⟨h, _⟩
    · exact absurd h hx
    · exact absurd h hx
    · exact absurd h hx
    · exact absurd h hx
    · exact absurd h h6

set_option maxHeartbeats 1600000 in
set_option maxRecDepth 100000 in
theorem refRight_text (w : World) (k n : Int) (t : ByteArray) (xs : List ByteArray) (x : Option Addr) (c : Nat) (h5 : ¬ k = 5) (ht : ¬ t.data.toList = []) :
    Calls Tryz.prog 118 #[.agg #[.int .i64 k, .int .i64 n, .string t, .slice x xs.length c]] w fun e w' => e = .returned (.bool (rightV ⟨k, n, t, xs⟩)) ∧ Below w.heap.size w w' := by
  have hb0 : Hid (∀ o, Below w.heap.size w (w.alloc o)) := Lib.hid fun o => (Below.refl _ _).alloc (Nat.le_refl _) o
  have HV := Lib.hid (right_text (n := n) (xs := xs) h5 ht)
  have d1 : (k != 5) = true := ne_true h5
  have d2 := emp_false' ht
  clear h5 ht
  go_enter Tryz.func118, Tryz.ntmps118
  go_wp2
  go_ret
  exact ⟨ret_bool HV.out, hb0.out _⟩

set_option maxHeartbeats 1600000 in
set_option maxRecDepth 100000 in
theorem refRight_words (w : World) (k n : Int) (t : ByteArray) (xs : List ByteArray) (x : Option Addr) (c : Nat) (h5 : k = 5 ∨ t.data.toList = []) (h6 : ¬ k = 6) (hx : ¬ xs.length = 0) :
    Calls Tryz.prog 118 #[.agg #[.int .i64 k, .int .i64 n, .string t, .slice x xs.length c]] w fun e w' => e = .returned (.bool (rightV ⟨k, n, t, xs⟩)) ∧ Below w.heap.size w w' := by
  have hb0 : Hid (∀ o, Below w.heap.size w (w.alloc o)) := Lib.hid fun o => (Below.refl _ _).alloc (Nat.le_refl _) o
  have HV := Lib.hid (right_words (n := n) (t := t) h6 hx)
  have d3 : (k != 6) = true := ne_true h6
  have d4 : decide ((0 : Int) < xs.length) = true := decide_eq_true (by omega)
  have d5 : (0 : Int) < xs.length := by omega
  clear h6 hx
  by_cases h : k = 5
  · have d1 : (k != 5) = false := ne_false h
    clear h h5
    go_enter Tryz.func118, Tryz.ntmps118
    go_wp2
    go_ret
    exact ⟨ret_bool HV.out, hb0.out _⟩
  · have d1 : (k != 5) = true := ne_true h
    have ht : t.data.toList = [] := h5.resolve_left h
    have e : t = ⟨#[]⟩ := by rw [← mkB_self t, ht]; rfl
    subst e
    clear h h5 ht
    go_enter Tryz.func118, Tryz.ntmps118
    go_wp2
    go_ret
    exact ⟨ret_bool HV.out, hb0.out _⟩

set_option maxHeartbeats 1600000 in
set_option maxRecDepth 100000 in
theorem refRight_one (w : World) (n : Int) (x : Option Addr) (c : Nat) :
    Calls Tryz.prog 118 #[.agg #[.int .i64 1, .int .i64 n, .string ⟨#[]⟩, .slice x 0 c]] w fun e w' => e = .returned (.bool (rightV ⟨1, n, ⟨#[]⟩, []⟩)) ∧ Below w.heap.size w w' := by
  have hb0 : Hid (∀ o, Below w.heap.size w (w.alloc o)) := Lib.hid fun o => (Below.refl _ _).alloc (Nat.le_refl _) o
  have HR : rightV ⟨1, n, ⟨#[]⟩, []⟩ = decide (0 ≤ n ∧ n ≤ 1) := by unfold rightV; rw [if_pos rfl]; simp
  by_cases h0 : n = 0
  · have HV : Hid (rightV ⟨1, n, ⟨#[]⟩, []⟩ = true) := Lib.hid (by rw [HR]; exact decide_eq_true (by omega))
    have d1 : (n == 0) = true := beq_iff_eq.2 h0
    clear HR h0
    go_enter Tryz.func118, Tryz.ntmps118
    go_wp2
    go_ret
    exact ⟨ret_bool HV.out, hb0.out _⟩
  have d1 : (n == 0) = false := beq_eq_false_iff_ne.2 h0
  by_cases h1 : n = 1
  · have HV : Hid (rightV ⟨1, n, ⟨#[]⟩, []⟩ = true) := Lib.hid (by rw [HR]; exact decide_eq_true (by omega))
    have d2 : (n == 1) = true := beq_iff_eq.2 h1
    clear HR h0 h1
    go_enter Tryz.func118, Tryz.ntmps118
    go_wp2
    go_ret
    exact ⟨ret_bool HV.out, hb0.out _⟩
  · have HV : Hid (rightV ⟨1, n, ⟨#[]⟩, []⟩ = false) := Lib.hid (by rw [HR]; exact decide_eq_false (by omega))
    have d2 : (n == 1) = false := beq_eq_false_iff_ne.2 h1
    clear HR h0 h1
    go_enter Tryz.func118, Tryz.ntmps118
    go_wp2
    go_ret
    exact ⟨ret_bool HV.out, hb0.out _⟩

set_option maxHeartbeats 1600000 in
set_option maxRecDepth 100000 in
theorem refRight_int (w : World) (n : Int) (x : Option Addr) (c : Nat) :
    Calls Tryz.prog 118 #[.agg #[.int .i64 2, .int .i64 n, .string ⟨#[]⟩, .slice x 0 c]] w fun e w' => e = .returned (.bool (rightV ⟨2, n, ⟨#[]⟩, []⟩)) ∧ Below w.heap.size w w' := by
  have hb0 : Hid (∀ o, Below w.heap.size w (w.alloc o)) := Lib.hid fun o => (Below.refl _ _).alloc (Nat.le_refl _) o
  have HR : rightV ⟨2, n, ⟨#[]⟩, []⟩ = decide (-4611686018427387904 ≤ n ∧ n ≤ 4611686018427387904) := by unfold rightV; rw [if_neg (by simp), if_pos rfl]; simp
  by_cases h0 : -4611686018427387904 ≤ n
  · have d1 : decide (-4611686018427387904 ≤ n) = true := decide_eq_true h0
    by_cases h1 : n ≤ 4611686018427387904
    · have HV : Hid (rightV ⟨2, n, ⟨#[]⟩, []⟩ = true) := Lib.hid (by rw [HR]; exact decide_eq_true ⟨h0, h1⟩)
      have d2 : decide (n ≤ 4611686018427387904) = true := decide_eq_true h1
      clear HR h0 h1
      go_enter Tryz.func118, Tryz.ntmps118
      go_wp2
      go_ret
      exact ⟨ret_bool HV.out, hb0.out _⟩
    · have HV : Hid (rightV ⟨2, n, ⟨#[]⟩, []⟩ = false) := Lib.hid (by rw [HR]; exact decide_eq_false (fun h => h1 h.2))
      have d2 : decide (n ≤ 4611686018427387904) = false := decide_eq_false h1
      clear HR h0 h1
      go_enter Tryz.func118, Tryz.ntmps118
      go_wp2
      go_ret
      exact ⟨ret_bool HV.out, hb0.out _⟩
  · have HV : Hid (rightV ⟨2, n, ⟨#[]⟩, []⟩ = false) := Lib.hid (by rw [HR]; exact decide_eq_false (fun h => h0 h.1))
    have d1 : decide (-4611686018427387904 ≤ n) = false := decide_eq_false h0
    clear HR h0
    go_enter Tryz.func118, Tryz.ntmps118
    go_wp2
    go_ret
    exact ⟨ret_bool HV.out, hb0.out _⟩

set_option maxHeartbeats 1600000 in
set_option maxRecDepth 100000 in
theorem refRight_none (w : World) (k n : Int) (x : Option Addr) (c : Nat) (g1 : ¬ k = 1) (g2 : ¬ k = 2) (g3 : ¬ k = 3) (g4 : ¬ k = 4) (g5 : ¬ k = 5) (g6 : ¬ k = 6) :
    Calls Tryz.prog 118 #[.agg #[.int .i64 k, .int .i64 n, .string ⟨#[]⟩, .slice x 0 c]] w fun e w' => e = .returned (.bool (rightV ⟨k, n, ⟨#[]⟩, []⟩)) ∧ Below w.heap.size w w' := by
  have hb0 : Hid (∀ o, Below w.heap.size w (w.alloc o)) := Lib.hid fun o => (Below.refl _ _).alloc (Nat.le_refl _) o
  have HV : Hid (rightV ⟨k, n, ⟨#[]⟩, []⟩ = false) := Lib.hid (by unfold rightV; rw [if_neg g1, if_neg g2, if_neg (by simp only; omega), if_neg g5, if_neg g6])
  have e1 : (k == 1) = false := beq_eq_false_iff_ne.2 g1
  have e2 : (k == 2) = false := beq_eq_false_iff_ne.2 g2
  have e3 : (k == 3) = false := beq_eq_false_iff_ne.2 g3
  have e4 : (k == 4) = false := beq_eq_false_iff_ne.2 g4
  have e5 : (k == 5) = false := beq_eq_false_iff_ne.2 g5
  have e6 : (k == 6) = false := beq_eq_false_iff_ne.2 g6
  have f5 : (k != 5) = true := ne_true g5
  have f6 : (k != 6) = true := ne_true g6
  clear g1 g2 g3 g4 g5 g6
  go_enter Tryz.func118, Tryz.ntmps118
  go_wp2
  go_ret
  exact ⟨ret_bool HV.out, hb0.out _⟩
end Go.Proofs.YtbgoooljkdjjhaaGreatDoor
