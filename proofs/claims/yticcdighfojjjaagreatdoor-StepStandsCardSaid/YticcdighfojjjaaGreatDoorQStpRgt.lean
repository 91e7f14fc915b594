/-
  StpRgt.
-/
import Derived.Test.YticcdighfojjjaaGreatDoorQStpCal
import Derived.Test.YticcdighfojjjaaGreatDoorQStpRight
import Derived.Test.YticcdighfojjjaaGreatDoorQGlyphNames
namespace Go.Proofs.YticcdighfojjjaaGreatDoor
open Go.ChangeShapes Go.WideShapes Go.ChangeAt Go.RowKit

set_option maxHeartbeats 6400000 in
set_option maxRecDepth 100000 in
theorem pright_any (s : StepV) (w : World) (hs : StepOk s) (hT : StdS w) :
    Calls Tryz.prog 18 #[sV s] w fun e w' => e = .returned (.bool (rightS s)) ∧ Below w.heap.size w w' := by
  rw [right_K]
  obtain ⟨kd, tb, ky, to, tx⟩ := s
  obtain ⟨s1, s2, s3, s4⟩ := hs
  unfold sV
  dsimp only at s1 s2 s3 s4 ⊢
  have HW : Hid (∀ o, (Calls Tryz.prog 35 #[.string tb] (w.alloc o) fun e w' => e = .returned (.bool (wordA tb)) ∧ w.alloc o = w') ∧ (Calls Tryz.prog 35 #[.string ky] (w.alloc o) fun e w' => e = .returned (.bool (wordA ky)) ∧ w.alloc o = w') ∧ (Calls Tryz.prog 35 #[.string to] (w.alloc o) fun e w' => e = .returned (.bool (wordA to)) ∧ w.alloc o = w') ∧ (Calls Tryz.prog 30 #[.string tx] (w.alloc o) fun e w' => e = .returned (.bool (decide (tx.size ≤ 200))) ∧ w.alloc o = w')) := Lib.hid fun o =>
    have hT' := hT.tab.below (below_one w o)
    ⟨isWord_any tb _ hT' s1, isWord_any ky _ hT' s2, isWord_any to _ hT' s3, isValue_any tx _⟩
  have HN : Hid (∀ W, Calls Tryz.prog 29 #[.string tx] W fun e w' => e = .returned (namedV tx) ∧ W = w') := Lib.hid fun W => named_any tx W
  have HF : Hid (knownB tx = false → namedV tx = .nilFunc) := Lib.hid named_none
  have HG : Hid (knownB tx = true → ∃ f, namedV tx = .func (.func f) #[] #[]) := Lib.hid fun h => by
    obtain ⟨f, hf, _⟩ := fn_any (s := emB) h (by decide) w hT
    exact ⟨f, hf⟩
  clear hT
  have e1 := none_list ky
  have e1' := none_empty ky
  have e2 := none_list to
  have e2' := none_empty to
  have e3 := none_list tx
  have e3' := none_empty tx
  generalize namedV tx = NV at HN HF HG
  generalize wordA tb = a at HW ⊢
  generalize wordA ky = b at HW ⊢
  generalize wordA to = c at HW ⊢
  generalize knownB tx = kn at HF HG ⊢
  generalize noneA ky = ek at e1 e1' ⊢
  generalize noneA to = et at e2 e2' ⊢
  generalize noneA tx = ex at e3 e3' ⊢
  generalize decide (tx.size ≤ 200) = lx at HW ⊢
  clear s1 s2 s3 s4
  obtain ⟨R, hR⟩ : ∃ R, rightK kd a b c ek et ex lx kn = R := ⟨_, rfl⟩
  rw [hR]
  have HR := Lib.hid hR
  clear hR
  cases a with
  | false =>
    obtain rfl : false = R := HR.out
    clear HR e1 e1' e2 e2' e3 e3'
    go_enter Tryz.func18, Tryz.ntmps18
    go_wp2_with (first | (go_at_call 35; first | ((with_reducible refine (HW.out _).1.mono ?_); rintro e w' ⟨rfl, rfl⟩) | ((with_reducible refine (HW.out _).2.1.mono ?_); rintro e w' ⟨rfl, rfl⟩) | ((with_reducible refine (HW.out _).2.2.1.mono ?_); rintro e w' ⟨rfl, rfl⟩)) | (go_at_call 30; (with_reducible refine (HW.out _).2.2.2.mono ?_); rintro e w' ⟨rfl, rfl⟩))
    go_ret
    exact ⟨rfl, below_one _ _⟩
  | true =>
    by_cases k1 : kd = 1
    · subst k1
      clear e1 e1' e3 e3'
      cases b <;> cases et <;> cases lx
      all_goals
        obtain rfl := HR.out
        clear HR
        go_enter Tryz.func18, Tryz.ntmps18
        go_wp2_with (first | (go_at_call 35; first | ((with_reducible refine (HW.out _).1.mono ?_); rintro e w' ⟨rfl, rfl⟩) | ((with_reducible refine (HW.out _).2.1.mono ?_); rintro e w' ⟨rfl, rfl⟩) | ((with_reducible refine (HW.out _).2.2.1.mono ?_); rintro e w' ⟨rfl, rfl⟩)) | (go_at_call 30; (with_reducible refine (HW.out _).2.2.2.mono ?_); rintro e w' ⟨rfl, rfl⟩))
        go_ret
        exact ⟨rfl, below_one _ _⟩
    have g1 : (kd == 1) = false := beq_eq_false_iff_ne.2 k1
    by_cases k2 : kd = 2
    · subst k2
      clear k1
      cases b <;> cases ek <;> cases et <;> cases ex
      all_goals
        obtain rfl := HR.out
        clear HR
        go_enter Tryz.func18, Tryz.ntmps18
        go_wp2_with (first | (go_at_call 35; first | ((with_reducible refine (HW.out _).1.mono ?_); rintro e w' ⟨rfl, rfl⟩) | ((with_reducible refine (HW.out _).2.1.mono ?_); rintro e w' ⟨rfl, rfl⟩) | ((with_reducible refine (HW.out _).2.2.1.mono ?_); rintro e w' ⟨rfl, rfl⟩)) | (go_at_call 30; (with_reducible refine (HW.out _).2.2.2.mono ?_); rintro e w' ⟨rfl, rfl⟩))
        go_ret
        exact ⟨rfl, below_one _ _⟩
    have g2 : (kd == 2) = false := beq_eq_false_iff_ne.2 k2
    by_cases k3 : kd = 3
    · subst k3
      clear k1 k2 e1 e1' e2 e2'
      cases b <;> cases c <;> cases ex
      all_goals
        obtain rfl := HR.out
        clear HR
        go_enter Tryz.func18, Tryz.ntmps18
        go_wp2_with (first | (go_at_call 35; first | ((with_reducible refine (HW.out _).1.mono ?_); rintro e w' ⟨rfl, rfl⟩) | ((with_reducible refine (HW.out _).2.1.mono ?_); rintro e w' ⟨rfl, rfl⟩) | ((with_reducible refine (HW.out _).2.2.1.mono ?_); rintro e w' ⟨rfl, rfl⟩)) | (go_at_call 30; (with_reducible refine (HW.out _).2.2.2.mono ?_); rintro e w' ⟨rfl, rfl⟩))
        go_ret
        exact ⟨rfl, below_one _ _⟩
    have g3 : (kd == 3) = false := beq_eq_false_iff_ne.2 k3
    by_cases k6 : kd = 6
    · subst k6
      clear k1 k2 k3 e1 e1' e2 e2'
      cases b <;> cases c <;> cases ex
      all_goals
        obtain rfl := HR.out
        clear HR
        go_enter Tryz.func18, Tryz.ntmps18
        go_wp2_with (first | (go_at_call 35; first | ((with_reducible refine (HW.out _).1.mono ?_); rintro e w' ⟨rfl, rfl⟩) | ((with_reducible refine (HW.out _).2.1.mono ?_); rintro e w' ⟨rfl, rfl⟩) | ((with_reducible refine (HW.out _).2.2.1.mono ?_); rintro e w' ⟨rfl, rfl⟩)) | (go_at_call 30; (with_reducible refine (HW.out _).2.2.2.mono ?_); rintro e w' ⟨rfl, rfl⟩))
        go_ret
        exact ⟨rfl, below_one _ _⟩
    have g6 : (kd == 6) = false := beq_eq_false_iff_ne.2 k6
    by_cases k4 : kd = 4
    · subst k4
      clear k1 k2 k3 k6 e2 e2'
      cases ek <;> cases c <;> cases ex
      all_goals
        obtain rfl := HR.out
        clear HR
        go_enter Tryz.func18, Tryz.ntmps18
        go_wp2_with (first | (go_at_call 35; first | ((with_reducible refine (HW.out _).1.mono ?_); rintro e w' ⟨rfl, rfl⟩) | ((with_reducible refine (HW.out _).2.1.mono ?_); rintro e w' ⟨rfl, rfl⟩) | ((with_reducible refine (HW.out _).2.2.1.mono ?_); rintro e w' ⟨rfl, rfl⟩)) | (go_at_call 30; (with_reducible refine (HW.out _).2.2.2.mono ?_); rintro e w' ⟨rfl, rfl⟩))
        go_ret
        exact ⟨rfl, below_one _ _⟩
    have g4 : (kd == 4) = false := beq_eq_false_iff_ne.2 k4
    by_cases k5 : kd = 5
    · subst k5
      clear k1 k2 k3 k6 k4 e3 e3'
      cases kn with
      | false =>
        obtain rfl := HF.out rfl
        have hq := neq_nil
        clear HF HG
        cases ek <;> cases et
        all_goals
          obtain rfl := HR.out
          clear HR
          go_enter Tryz.func18, Tryz.ntmps18
          go_wp2_with (first | (go_at_call 35; first | ((with_reducible refine (HW.out _).1.mono ?_); rintro e w' ⟨rfl, rfl⟩) | ((with_reducible refine (HW.out _).2.1.mono ?_); rintro e w' ⟨rfl, rfl⟩) | ((with_reducible refine (HW.out _).2.2.1.mono ?_); rintro e w' ⟨rfl, rfl⟩)) | (go_at_call 29; (with_reducible refine (HN.out _).mono ?_); rintro e w2 ⟨rfl, rfl⟩))
          go_ret
          exact ⟨rfl, below_one _ _⟩
      | true =>
        obtain ⟨f, rfl⟩ := HG.out rfl
        have hq := fun W => neq_fn f W
        clear HF HG
        cases ek <;> cases et
        all_goals
          obtain rfl := HR.out
          clear HR
          go_enter Tryz.func18, Tryz.ntmps18
          go_wp2_with (first | (go_at_call 35; first | ((with_reducible refine (HW.out _).1.mono ?_); rintro e w' ⟨rfl, rfl⟩) | ((with_reducible refine (HW.out _).2.1.mono ?_); rintro e w' ⟨rfl, rfl⟩) | ((with_reducible refine (HW.out _).2.2.1.mono ?_); rintro e w' ⟨rfl, rfl⟩)) | (go_at_call 29; (with_reducible refine (HN.out _).mono ?_); rintro e w2 ⟨rfl, rfl⟩))
          go_ret
          exact ⟨rfl, below_one _ _⟩
    have g5 : (kd == 5) = false := beq_eq_false_iff_ne.2 k5
    obtain rfl : false = R := by
      rw [← HR.out]
      unfold rightK
      rw [if_neg k1, if_neg k2, if_neg (by omega), if_neg k4, if_neg k5]; rfl
    clear HR e1 e1' e2 e2' e3 e3' k1 k2 k3 k4 k5 k6
    go_enter Tryz.func18, Tryz.ntmps18
    go_wp2_with (first | (go_at_call 35; first | ((with_reducible refine (HW.out _).1.mono ?_); rintro e w' ⟨rfl, rfl⟩) | ((with_reducible refine (HW.out _).2.1.mono ?_); rintro e w' ⟨rfl, rfl⟩) | ((with_reducible refine (HW.out _).2.2.1.mono ?_); rintro e w' ⟨rfl, rfl⟩)) | (go_at_call 30; (with_reducible refine (HW.out _).2.2.2.mono ?_); rintro e w' ⟨rfl, rfl⟩))
    go_ret
    exact ⟨rfl, below_one _ _⟩
end Go.Proofs.YticcdighfojjjaaGreatDoor
