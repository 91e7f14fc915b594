/-
  The walks of the law's same, add, pick and awake.
-/
import Derived.Test.YtbpbiakdigjcnaaDoorIniPrint
import Derived.Laws.StructEq
namespace Go.Proofs.YtbpbiakdigjcnaaDoor
open Go.ChangeShapes Go.WideShapes Go.ChangeAt Go.RowKit

def lnAgg (l : LineV) : Value := .agg #[.string l.name, .string l.text, .int .i64 l.num]
theorem lneq_self (l : LineV) (w : World) : (binOp .neq 35 (.agg #[.string l.name, .string l.text, .int .i64 l.num]) (.agg #[.string l.name, .string l.text, .int .i64 l.num])).run Tryd.prog w = .ok (.bool false) w := by
  have u3 := Tryd.underlying3
  have u9 := Tryd.underlying9
  have hS : Tryd.prog.underlying 35 = some (.struct (Tryd.prog.fieldsOf 35)) := by kernel_rfl
  have hp : Tryd.prog.stoodInHeld 35 = false := by kernel_rfl
  rw [run_neq_struct, show (10000 : Nat) = 9999 + 1 from rfl, run_equalIn_agg w 9999 35 _ _ hS hp]
  simp only [Program.fieldsOf, Tryd.underlying35]
  go_simp
theorem leql_self (l : LineV) (w : World) : (binOp .eql 35 (.agg #[.string l.name, .string l.text, .int .i64 l.num]) (.agg #[.string l.name, .string l.text, .int .i64 l.num])).run Tryd.prog w = .ok (.bool true) w := by
  have u3 := Tryd.underlying3
  have u9 := Tryd.underlying9
  have hS : Tryd.prog.underlying 35 = some (.struct (Tryd.prog.fieldsOf 35)) := by kernel_rfl
  have hp : Tryd.prog.stoodInHeld 35 = false := by kernel_rfl
  rw [run_eql_struct, show (10000 : Nat) = 9999 + 1 from rfl, run_equalIn_agg w 9999 35 _ _ hS hp]
  simp only [Program.fieldsOf, Tryd.underlying35]
  go_simp
theorem lneq_guard (x y : Operand) (xs ys : Array Value) (w : World) : (eqGuard .neq 35 x y (.agg xs) (.agg ys)).run Tryd.prog w = .ok () w :=
  run_eqGuard_agg w .neq 35 x y xs ys (by kernel_rfl)
theorem leql_guard (x y : Operand) (xs ys : Array Value) (w : World) : (eqGuard .eql 35 x y (.agg xs) (.agg ys)).run Tryd.prog w = .ok () w :=
  run_eqGuard_agg w .eql 35 x y xs ys (by kernel_rfl)

set_option maxHeartbeats 1600000 in
set_option maxRecDepth 100000 in
theorem isame_any (xs : List LineV) (x y : Option Addr) (c d : Nat) (w : World) (ha : Lns w x xs) (hb : Lns w y xs) (hn : xs.length ≤ 4611686018427387904) :
    Calls Tryd.prog 15 #[.slice x xs.length c, .slice y xs.length d] w fun e w' => e = .returned (.bool true) ∧ Below w.heap.size w w' := by
  have HA := Lib.hid ha
  have HB := Lib.hid hb
  obtain ⟨n, hn'⟩ : ∃ n, xs.length = n := ⟨_, rfl⟩
  have HN := Lib.hid hn'
  rw [hn'] at hn ⊢
  clear ha hb hn'
  go_enter Tryd.func15, Tryd.ntmps15
  go_wp2
  go_loopw [5] (fun i wr => ∃ t : Nat, i = .int .i64 t ∧ t ≤ n ∧ Hid (Below w.heap.size w wr)) (fun i _ => n - (intOf i).toNat)
  case atStart => exact ⟨0, rfl, by omega, Lib.hid (Below.refl _ _)⟩
  case round =>
    obtain ⟨t, rfl, ht, HK⟩ := hrel
    by_cases hlt : t < n
    · have htx : t < xs.length := by rw [HN.out]; exact hlt
      obtain ⟨a', oa, ea, hal, a0, a1, a2⟩ := (HA.out.below HK.out) t htx
      obtain ⟨b', ob, eb, hbl, b0, b1, b2⟩ := (HB.out.below HK.out) t htx
      subst ea eb
      generalize xs[t] = k at a0 a1 a2 b0 b1 b2
      have hne := lneq_self k
      have hgd := lneq_guard
      obtain ⟨kn, kt, kk⟩ := k
      simp only at a0 a1 a2 b0 b1 b2 hne
      have q1 : (0 : Int) ≤ t := by omega
      have q2 : (t : Int) < n := by omega
      have HD := Lib.hid (HK.out.trans ((below_drewN wr 1).mono HK.out.size))
      clear htx
      go_wp2
      go_region
      all_goals
        go_wp2
        go_roundw
        case rel => exact ⟨t + 1, by go_num, by omega, HD⟩
        case measure => simp [intOf]; omega
    · have q2 : ¬ (t : Int) < n := by omega
      go_wp2
      go_ret
      exact ⟨rfl, HK.out⟩
set_option maxRecDepth 100000 in
theorem isame_no (n m : Nat) (x y : Option Addr) (c d : Nat) (w : World) (hne : n ≠ m) :
    Calls Tryd.prog 15 #[.slice x n c, .slice y m d] w fun e w' => e = .returned (.bool false) ∧ Below w.heap.size w w' := by
  have d0 : ((n : Int) != m) = true := ne_true (by omega)
  clear hne
  go_enter Tryd.func15, Tryd.ntmps15
  go_wp2
  go_ret
  exact ⟨rfl, Below.refl _ _⟩

/-- The sum, bounded. -/
def addI (n m : Int) : Int := if m > 2147483647 - n then 2147483648 else n + m
theorem addI_in {n m : Int} (h0 : 0 ≤ n) (h1 : 0 ≤ m) : 0 ≤ addI n m ∧ addI n m ≤ 2147483648 := by unfold addI; split <;> omega
set_option maxRecDepth 100000 in
theorem iadd_any (n m : Int) (w : World) (h0 : 0 ≤ n) (h1 : n ≤ 9223372036854775807) (h2 : 0 ≤ m) (h3 : m ≤ 9223372036854775807) :
    Calls Tryd.prog 8 #[.int .i64 n, .int .i64 m] w fun e w' => e = .returned (.int .i64 (addI n m)) ∧ w = w' := by
  have hw : IntKind.i64.wrap (2147483647 - n) = 2147483647 - n := IntWalk.i64_in _ (by omega)
  by_cases h : m > 2147483647 - n
  · have q : 2147483647 - n < m := h
    rw [show addI n m = 2147483648 by unfold addI; rw [if_pos h]]
    clear h
    go_enter Tryd.func8, Tryd.ntmps8
    go_wp2
    go_ret
    exact ⟨rfl, rfl⟩
  · have q : ¬ 2147483647 - n < m := h
    have hw2 : IntKind.i64.wrap (n + m) = n + m := IntWalk.i64_in _ (by omega)
    rw [show addI n m = n + m by unfold addI; rw [if_neg h]]
    clear h
    go_enter Tryd.func8, Tryd.ntmps8
    go_wp2
    go_ret
    exact ⟨rfl, rfl⟩
end Go.Proofs.YtbpbiakdigjcnaaDoor
