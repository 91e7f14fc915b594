/-
  The walk of the document's own 'Within'.
-/
import Derived.Test.YtolibkcdfhbdiaaDoorValueRefRight2
namespace Go.Proofs.YtolibkcdfhbdiaaDoor
open Go.ChangeShapes Go.WideShapes Go.ChangeAt Go.RowKit

theorem within_not {v : Val} (h : rightV v = false) (a b : Int) : withinV v a b = false := by unfold withinV; rw [h]; rfl
theorem within_all {v : Val} (h : rightV v = true) (hk : v.kind = 1 ∨ v.kind = 5) (a b : Int) : withinV v a b = true := by
  unfold withinV; rw [h, if_neg (by omega), if_neg (by omega)]; rfl
theorem within_words {v : Val} (h : rightV v = true) (hk : v.kind = 6) (a b : Int) : withinV v a b = (decide (a ≤ v.words.length) && decide ((v.words.length : Int) ≤ b)) := by
  unfold withinV; rw [h, if_neg (by omega), if_pos hk]; simp
theorem within_num {v : Val} (h : rightV v = true) (h1 : ¬ v.kind = 1) (h5 : ¬ v.kind = 5) (h6 : ¬ v.kind = 6) (a b : Int) : withinV v a b = (decide (a ≤ v.int) && decide (v.int ≤ b)) := by
  have hk : v.kind = 2 ∨ v.kind = 3 ∨ v.kind = 4 := by
    rcases right_cases h with ⟨h, _⟩ | ⟨h, _⟩ | ⟨h, _⟩ | ⟨h, _⟩ | ⟨h, _⟩ <;> omega
  unfold withinV; rw [h, if_pos hk]; simp

set_option maxHeartbeats 3200000 in
set_option maxRecDepth 100000 in
theorem refWithin_any (w : World) (v : Val) (x : Option Addr) (c : Nat) (a b : Int) (h : ArgOk w v x c) (hl : v.words.length ≤ 2147483647) :
    Calls Tryd.prog 25 #[argV v x c, .int .i64 a, .int .i64 b] w fun e w' => e = .returned (.bool (withinV v a b)) ∧ Below w.heap.size w w' := by
  have hb0 : Hid (∀ p, Box4 (w.alloc (.cells #[.int .i64 v.kind, .int .i64 v.int, .string v.text, .slice x v.words.length c] p)) w.heap.size (.int .i64 v.kind) (.int .i64 v.int) (.string v.text) (.slice x v.words.length c) ∧ Below w.heap.size w (w.alloc (.cells #[.int .i64 v.kind, .int .i64 v.int, .string v.text, .slice x v.words.length c] p))) := Lib.hid fun p => ⟨box4_new w _ _ _ _ p, (Below.refl _ _).alloc (Nat.le_refl _) _⟩
  have HRC : Hid (∀ p, Calls Tryd.prog 23 #[.agg #[.int .i64 v.kind, .int .i64 v.int, .string v.text, .slice x v.words.length c]] (w.alloc (.cells #[.int .i64 v.kind, .int .i64 v.int, .string v.text, .slice x v.words.length c] p)) fun e w' => e = .returned (.bool (rightV v)) ∧ Below (w.alloc (.cells #[.int .i64 v.kind, .int .i64 v.int, .string v.text, .slice x v.words.length c] p)).heap.size (w.alloc (.cells #[.int .i64 v.kind, .int .i64 v.int, .string v.text, .slice x v.words.length c] p)) w') := Lib.hid fun p => refRight_any _ v x c (h.below ((hb0.out p).2)) hl
  have H1 := Lib.hid (fun hr => within_not (v := v) hr a b)
  have H2 := Lib.hid (fun hr hk => within_all (v := v) hr hk a b)
  have H3 := Lib.hid (fun hr hk => within_words (v := v) hr hk a b)
  have H4 := Lib.hid (fun hr h1 h5 h6 => within_num (v := v) hr h1 h5 h6 a b)
  clear h hl
  obtain ⟨R, hR⟩ : ∃ R, withinV v a b = R := ⟨_, rfl⟩
  obtain ⟨T, hT⟩ : ∃ T, rightV v = T := ⟨_, rfl⟩
  rw [hR] at H1 H2 H3 H4 ⊢
  rw [hT] at H1 H2 H3 H4 HRC
  clear hR hT
  unfold argV
  obtain ⟨k, n, t, xs⟩ := v
  simp only at hb0 HRC H1 H2 H3 H4 ⊢
  obtain ⟨N, hN⟩ : ∃ N, xs.length = N := ⟨_, rfl⟩
  rw [hN] at hb0 HRC H3 ⊢
  clear hN
  cases hT : T with
  | false =>
    have HV := Lib.hid (H1.out hT)
    subst hT
    go_enter Tryd.func25, Tryd.ntmps25
    go_wp2_with fail
    refine (HRC.out _).mono ?_
    rintro e w1 ⟨rfl, hb⟩
    have HB := Lib.hid ((hb0.out 29).2.trans (hb.mono (hb0.out 29).2.size))
    clear hb
    go_wp2
    go_ret
    exact ⟨ret_bool HV.out, HB.out⟩
  | true =>
    have HT := Lib.hid hT
    subst hT
    by_cases h1 : k = 1
    · have HV := Lib.hid (H2.out rfl (Or.inl h1))
      have e1 : (k == 1) = true := beq_iff_eq.2 h1
      clear h1
      go_enter Tryd.func25, Tryd.ntmps25
      go_wp2_with fail
      refine (HRC.out _).mono ?_
      rintro e w1 ⟨rfl, hb⟩
      obtain ⟨c0, c1, c2, c3, _, _, _, _⟩ := (hb0.out 29).1.below hb
      have HB := Lib.hid ((hb0.out 29).2.trans (hb.mono (hb0.out 29).2.size))
      clear hb
      go_wp2
      go_ret
      exact ⟨ret_bool HV.out, HB.out⟩
    have e1 : (k == 1) = false := beq_eq_false_iff_ne.2 h1
    by_cases h5 : k = 5
    · have HV := Lib.hid (H2.out rfl (Or.inr h5))
      have e5 : (k == 5) = true := beq_iff_eq.2 h5
      clear h1 h5
      go_enter Tryd.func25, Tryd.ntmps25
      go_wp2_with fail
      refine (HRC.out _).mono ?_
      rintro e w1 ⟨rfl, hb⟩
      obtain ⟨c0, c1, c2, c3, _, _, _, _⟩ := (hb0.out 29).1.below hb
      have HB := Lib.hid ((hb0.out 29).2.trans (hb.mono (hb0.out 29).2.size))
      clear hb
      go_wp2
      go_ret
      exact ⟨ret_bool HV.out, HB.out⟩
    have e5 : (k == 5) = false := beq_eq_false_iff_ne.2 h5
    by_cases h6 : k = 6
    · have e6 : (k == 6) = true := beq_iff_eq.2 h6
      have HV0 := H3.out rfl h6
      clear h1 h5 h6
      by_cases ha : a ≤ N
      · have d1 : decide (a ≤ N) = true := decide_eq_true ha
        have HV : Hid (R = decide ((N : Int) ≤ b)) := Lib.hid (by rw [HV0, d1, Bool.true_and])
        clear HV0
        go_enter Tryd.func25, Tryd.ntmps25
        go_wp2_with fail
        refine (HRC.out _).mono ?_
        rintro e w1 ⟨rfl, hb⟩
        obtain ⟨c0, c1, c2, c3, _, _, _, _⟩ := (hb0.out 29).1.below hb
        have HB := Lib.hid ((hb0.out 29).2.trans (hb.mono (hb0.out 29).2.size))
        clear hb
        go_wp2
        go_ret
        exact ⟨ret_bool HV.out, HB.out⟩
      · have d1 : decide (a ≤ N) = false := decide_eq_false ha
        have HV : Hid (R = false) := Lib.hid (by rw [HV0, d1, Bool.false_and])
        clear HV0 ha
        go_enter Tryd.func25, Tryd.ntmps25
        go_wp2_with fail
        refine (HRC.out _).mono ?_
        rintro e w1 ⟨rfl, hb⟩
        obtain ⟨c0, c1, c2, c3, _, _, _, _⟩ := (hb0.out 29).1.below hb
        have HB := Lib.hid ((hb0.out 29).2.trans (hb.mono (hb0.out 29).2.size))
        clear hb
        go_wp2
        go_ret
        exact ⟨ret_bool HV.out, HB.out⟩
    · have e6 : (k == 6) = false := beq_eq_false_iff_ne.2 h6
      have HV0 := H4.out rfl h1 h5 h6
      clear h1 h5 h6
      by_cases ha : a ≤ n
      · have d1 : decide (a ≤ n) = true := decide_eq_true ha
        have HV : Hid (R = decide (n ≤ b)) := Lib.hid (by rw [HV0, d1, Bool.true_and])
        clear HV0
        go_enter Tryd.func25, Tryd.ntmps25
        go_wp2_with fail
        refine (HRC.out _).mono ?_
        rintro e w1 ⟨rfl, hb⟩
        obtain ⟨c0, c1, c2, c3, _, _, _, _⟩ := (hb0.out 29).1.below hb
        have HB := Lib.hid ((hb0.out 29).2.trans (hb.mono (hb0.out 29).2.size))
        clear hb
        go_wp2
        go_ret
        exact ⟨ret_bool HV.out, HB.out⟩
      · have d1 : decide (a ≤ n) = false := decide_eq_false ha
        have HV : Hid (R = false) := Lib.hid (by rw [HV0, d1, Bool.false_and])
        clear HV0 ha
        go_enter Tryd.func25, Tryd.ntmps25
        go_wp2_with fail
        refine (HRC.out _).mono ?_
        rintro e w1 ⟨rfl, hb⟩
        obtain ⟨c0, c1, c2, c3, _, _, _, _⟩ := (hb0.out 29).1.below hb
        have HB := Lib.hid ((hb0.out 29).2.trans (hb.mono (hb0.out 29).2.size))
        clear hb
        go_wp2
        go_ret
        exact ⟨ret_bool HV.out, HB.out⟩
end Go.Proofs.YtolibkcdfhbdiaaDoor
