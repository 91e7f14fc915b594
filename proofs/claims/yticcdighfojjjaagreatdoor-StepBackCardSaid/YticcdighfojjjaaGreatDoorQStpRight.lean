/-
  StpRight.
-/
import Derived.Test.YticcdighfojjjaaGreatDoorQStpCall
import Derived.Test.YticcdighfojjjaaGreatDoorQPrKit
namespace Go.Proofs.YticcdighfojjjaaGreatDoor
open Go.ChangeShapes Go.WideShapes Go.ChangeAt Go.RowKit

/-- A step as a value. -/
abbrev sV (s : StepV) : Value := .agg #[.int .i64 s.kind, .string s.table, .string s.key, .string s.to, .string s.text]
/-- Its texts are texts. -/
structure StepOk (s : StepV) : Prop where
  table : s.table.size ≤ maxLen
  key : s.key.size ≤ maxLen
  to : s.to.size ≤ maxLen
  text : s.text.size ≤ maxLen
def rightK (kd : Int) (a b c ek et ex lx kn : Bool) : Bool :=
  a && (
    if kd = 1 then b && (et && lx)
    else if kd = 2 then (b || ek) && (et && ex)
    else if kd = 3 ∨ kd = 6 then b && (c && ex)
    else if kd = 4 then ek && (c && ex)
    else if kd = 5 then ek && (et && kn)
    else false)
theorem right_K (s : StepV) : rightS s = rightK s.kind (wordA s.table) (wordA s.key) (wordA s.to) (noneA s.key) (noneA s.to) (noneA s.text) (decide (s.text.size ≤ 200)) (knownB s.text) := rfl
theorem none_list (s : ByteArray) : (s.toList == []) = noneA s := by
  unfold noneA
  have hl := data_len s
  rw [Bool.eq_iff_iff, decide_eq_true_iff, beq_iff_eq, Lib.toList_data]
  exact ⟨fun e => by rw [e] at hl; exact hl.symm, fun e => List.eq_nil_of_length_eq_zero (by omega)⟩
theorem none_empty (s : ByteArray) : s.toList.isEmpty = noneA s := by
  rw [← none_list]; cases s.toList <;> rfl
theorem box5_cells {w w' : World} {a b c d e : Value} {t : TypeId} (h : Below (w.alloc (Obj.cells #[a, b, c, d, e] t)).heap.size (w.alloc (Obj.cells #[a, b, c, d, e] t)) w') :
    w'.cell? ⟨w.heap.size, 0, none⟩ = some a ∧ w'.cell? ⟨w.heap.size, 1, none⟩ = some b ∧ w'.cell? ⟨w.heap.size, 2, none⟩ = some c ∧ w'.cell? ⟨w.heap.size, 3, none⟩ = some d ∧ w'.cell? ⟨w.heap.size, 4, none⟩ = some e := by
  have hl : ∀ j, (⟨w.heap.size, j, none⟩ : Addr).block < (w.alloc (Obj.cells #[a, b, c, d, e] t)).heap.size := fun j => by simp
  refine ⟨?_, ?_, ?_, ?_, ?_⟩
  all_goals rw [h.cell (hl _)]; simp
set_option maxHeartbeats 6400000 in
set_option maxRecDepth 100000 in
theorem sright_any (s : StepV) (w : World) (hs : StepOk s) :
    Calls Tryz.prog 19 #[sV s] w fun e w' => e = .returned (.bool (rightS s)) ∧ Below w.heap.size w w' := by
  rw [right_K]
  obtain ⟨kd, tb, ky, to, tx⟩ := s
  obtain ⟨s1, s2, s3, s4⟩ := hs
  unfold sV
  dsimp only at s1 s2 s3 s4 ⊢
  have HW : Hid (∀ W, (Calls Tryz.prog 36 #[.string tb] W fun e w' => e = .returned (.bool (wordA tb)) ∧ W = w') ∧ (Calls Tryz.prog 36 #[.string ky] W fun e w' => e = .returned (.bool (wordA ky)) ∧ W = w') ∧ (Calls Tryz.prog 36 #[.string to] W fun e w' => e = .returned (.bool (wordA to)) ∧ W = w') ∧ (Calls Tryz.prog 31 #[.string tx] W fun e w' => e = .returned (.bool (knownB tx)) ∧ Below W.heap.size W w')) := Lib.hid fun W => ⟨refIsWord_any tb W s1, refIsWord_any ky W s2, refIsWord_any to W s3, sknown_any tx W⟩
  have e1 := none_list ky
  have e1' := none_empty ky
  have e2 := none_list to
  have e2' := none_empty to
  have e3 := none_list tx
  have e3' := none_empty tx
  have e4 : decide ((tx.size : Int) ≤ 200) = decide (tx.size ≤ 200) := by rw [decide_eq_decide]; omega
  generalize wordA tb = a at HW ⊢
  generalize wordA ky = b at HW ⊢
  generalize wordA to = c at HW ⊢
  generalize knownB tx = kn at HW ⊢
  generalize noneA ky = ek at e1 e1' ⊢
  generalize noneA to = et at e2 e2' ⊢
  generalize noneA tx = ex at e3 e3' ⊢
  generalize decide (tx.size ≤ 200) = lx at e4 ⊢
  clear s1 s2 s3 s4
  obtain ⟨R, hR⟩ : ∃ R, rightK kd a b c ek et ex lx kn = R := ⟨_, rfl⟩
  rw [hR]
  have HR := Lib.hid hR
  clear hR
  cases a with
  | false =>
    obtain rfl : false = R := HR.out
    clear HR e1 e1' e2 e2' e3 e3' e4
    go_enter Tryz.func19, Tryz.ntmps19
    go_wp2_with (go_at_call 36; first | ((with_reducible refine (HW.out _).1.mono ?_); rintro e w' ⟨rfl, rfl⟩) | ((with_reducible refine (HW.out _).2.1.mono ?_); rintro e w' ⟨rfl, rfl⟩) | ((with_reducible refine (HW.out _).2.2.1.mono ?_); rintro e w' ⟨rfl, rfl⟩))
    go_ret
    exact ⟨rfl, below_one _ _⟩
  | true =>
    by_cases k1 : kd = 1
    · subst k1
      clear e1 e1' e3 e3'
      cases b <;> cases et <;> cases lx
      all_goals
        obtain rfl := HR.out
        clear HR
        go_enter Tryz.func19, Tryz.ntmps19
        go_wp2_with (go_at_call 36; first | ((with_reducible refine (HW.out _).1.mono ?_); rintro e w' ⟨rfl, rfl⟩) | ((with_reducible refine (HW.out _).2.1.mono ?_); rintro e w' ⟨rfl, rfl⟩) | ((with_reducible refine (HW.out _).2.2.1.mono ?_); rintro e w' ⟨rfl, rfl⟩))
        go_ret
        exact ⟨rfl, below_one _ _⟩
    have g1 : (kd == 1) = false := beq_eq_false_iff_ne.2 k1
    by_cases k2 : kd = 2
    · subst k2
      clear e4 k1
      cases b <;> cases ek <;> cases et <;> cases ex
      all_goals
        obtain rfl := HR.out
        clear HR
        go_enter Tryz.func19, Tryz.ntmps19
        go_wp2_with (go_at_call 36; first | ((with_reducible refine (HW.out _).1.mono ?_); rintro e w' ⟨rfl, rfl⟩) | ((with_reducible refine (HW.out _).2.1.mono ?_); rintro e w' ⟨rfl, rfl⟩) | ((with_reducible refine (HW.out _).2.2.1.mono ?_); rintro e w' ⟨rfl, rfl⟩))
        go_ret
        exact ⟨rfl, below_one _ _⟩
    have g2 : (kd == 2) = false := beq_eq_false_iff_ne.2 k2
    by_cases k3 : kd = 3
    · subst k3
      clear e4 k1 k2 e1 e1' e2 e2'
      cases b <;> cases c <;> cases ex
      all_goals
        obtain rfl := HR.out
        clear HR
        go_enter Tryz.func19, Tryz.ntmps19
        go_wp2_with (go_at_call 36; first | ((with_reducible refine (HW.out _).1.mono ?_); rintro e w' ⟨rfl, rfl⟩) | ((with_reducible refine (HW.out _).2.1.mono ?_); rintro e w' ⟨rfl, rfl⟩) | ((with_reducible refine (HW.out _).2.2.1.mono ?_); rintro e w' ⟨rfl, rfl⟩))
        go_ret
        exact ⟨rfl, below_one _ _⟩
    have g3 : (kd == 3) = false := beq_eq_false_iff_ne.2 k3
    by_cases k6 : kd = 6
    · subst k6
      clear e4 k1 k2 k3 e1 e1' e2 e2'
      cases b <;> cases c <;> cases ex
      all_goals
        obtain rfl := HR.out
        clear HR
        go_enter Tryz.func19, Tryz.ntmps19
        go_wp2_with (go_at_call 36; first | ((with_reducible refine (HW.out _).1.mono ?_); rintro e w' ⟨rfl, rfl⟩) | ((with_reducible refine (HW.out _).2.1.mono ?_); rintro e w' ⟨rfl, rfl⟩) | ((with_reducible refine (HW.out _).2.2.1.mono ?_); rintro e w' ⟨rfl, rfl⟩))
        go_ret
        exact ⟨rfl, below_one _ _⟩
    have g6 : (kd == 6) = false := beq_eq_false_iff_ne.2 k6
    by_cases k4 : kd = 4
    · subst k4
      clear e4 k1 k2 k3 k6 e2 e2'
      cases ek <;> cases c <;> cases ex
      all_goals
        obtain rfl := HR.out
        clear HR
        go_enter Tryz.func19, Tryz.ntmps19
        go_wp2_with (go_at_call 36; first | ((with_reducible refine (HW.out _).1.mono ?_); rintro e w' ⟨rfl, rfl⟩) | ((with_reducible refine (HW.out _).2.1.mono ?_); rintro e w' ⟨rfl, rfl⟩) | ((with_reducible refine (HW.out _).2.2.1.mono ?_); rintro e w' ⟨rfl, rfl⟩))
        go_ret
        exact ⟨rfl, below_one _ _⟩
    have g4 : (kd == 4) = false := beq_eq_false_iff_ne.2 k4
    by_cases k5 : kd = 5
    · subst k5
      clear e4 k1 k2 k3 k6 k4 e3 e3'
      cases ek <;> cases et <;> cases kn
      all_goals
        obtain rfl := HR.out
        clear HR
        go_enter Tryz.func19, Tryz.ntmps19
        go_wp2_with (first | (go_at_call 36; first | ((with_reducible refine (HW.out _).1.mono ?_); rintro e w' ⟨rfl, rfl⟩) | ((with_reducible refine (HW.out _).2.1.mono ?_); rintro e w' ⟨rfl, rfl⟩) | ((with_reducible refine (HW.out _).2.2.1.mono ?_); rintro e w' ⟨rfl, rfl⟩)) | (go_at_call 31; (with_reducible refine (HW.out _).2.2.2.mono ?_); rintro e w2 ⟨rfl, hb⟩; obtain ⟨k0, k1, k2, k3, k4⟩ := box5_cells hb))
        go_ret
        exact ⟨rfl, (below_one _ _).trans (hb.mono (below_one w _).size)⟩
    have g5 : (kd == 5) = false := beq_eq_false_iff_ne.2 k5
    obtain rfl : false = R := by
      rw [← HR.out]
      unfold rightK
      rw [if_neg k1, if_neg k2, if_neg (by omega), if_neg k4, if_neg k5]; rfl
    clear HR e1 e1' e2 e2' e3 e3' e4 k1 k2 k3 k4 k5 k6
    go_enter Tryz.func19, Tryz.ntmps19
    go_wp2_with (go_at_call 36; first | ((with_reducible refine (HW.out _).1.mono ?_); rintro e w' ⟨rfl, rfl⟩) | ((with_reducible refine (HW.out _).2.1.mono ?_); rintro e w' ⟨rfl, rfl⟩) | ((with_reducible refine (HW.out _).2.2.1.mono ?_); rintro e w' ⟨rfl, rfl⟩))
    go_ret
    exact ⟨rfl, below_one _ _⟩
end Go.Proofs.YticcdighfojjjaaGreatDoor
