/-
  ValueRefWithin, SetMay.
-/
import Derived.Test.YtopghlnoklajkaaGreatDoorQValueRefRight2
import Derived.Test.YtopghlnoklajkaaGreatDoorQSetOwn
import Derived.Test.YtopghlnoklajkaaGreatDoorQKeyFind
namespace Go.Proofs.YtopghlnoklajkaaGreatDoor
open Go.ChangeShapes Go.WideShapes Go.ChangeAt Go.RowKit

theorem within_not {v : Val} (h : rightV v = false) (a b : Int) : withinV v a b = false := by unfold withinV; rw [h]; rfl
theorem within_all {v : Val} (h : rightV v = true) (hk : v.kind = 1 ∨ v.kind = 5) (a b : Int) : withinV v a b = true := by
  unfold withinV; rw [h, if_neg (by omega), if_neg (by omega)]; rfl
theorem within_words {v : Val} (h : rightV v = true) (hk : v.kind = 6) (a b : Int) : withinV v a b = (decide (a ≤ v.words.length) && decide ((v.words.length : Int) ≤ b)) := by
  unfold withinV; rw [h, if_neg (by omega), if_pos hk]; simp
theorem within_num {v : Val} (h : rightV v = true) (h1 : ¬ v.kind = 1) (h5 : ¬ v.kind = 5) (h6 : ¬ v.kind = 6) (a b : Int) : withinV v a b = (decide (a ≤ v.int) && decide (v.int ≤ b)) := by
  have hk : v.kind = 2 ∨ v.kind = 3 ∨ v.kind = 4 := by
    rcases right_cases h with ⟨h, _⟩ | ⟨h, _⟩ | ⟨h, _⟩ | ⟨h, _⟩ | ⟨h, _⟩ <;> omega
  unfold withinV; rw [h, if_pos hk]; simp

set_option maxHeartbeats 3200000 in
set_option maxRecDepth 100000 in
theorem refWithin_any (w : World) (v : Val) (x : Option Addr) (c : Nat) (a b : Int) (h : ArgOk w v x c) (hl : v.words.length ≤ 2147483647) :
    Calls Tryz.prog 102 #[argV v x c, .int .i64 a, .int .i64 b] w fun e w' => e = .returned (.bool (withinV v a b)) ∧ Below w.heap.size w w' := by
  have hb0 : Hid (∀ p, Box4 (w.alloc (.cells #[.int .i64 v.kind, .int .i64 v.int, .string v.text, .slice x v.words.length c] p)) w.heap.size (.int .i64 v.kind) (.int .i64 v.int) (.string v.text) (.slice x v.words.length c) ∧ Below w.heap.size w (w.alloc (.cells #[.int .i64 v.kind, .int .i64 v.int, .string v.text, .slice x v.words.length c] p))) := Lib.hid fun p => ⟨box4_new w _ _ _ _ p, (Below.refl _ _).alloc (Nat.le_refl _) _⟩
  have HRC : Hid (∀ p, Calls Tryz.prog 107 #[.agg #[.int .i64 v.kind, .int .i64 v.int, .string v.text, .slice x v.words.length c]] (w.alloc (.cells #[.int .i64 v.kind, .int .i64 v.int, .string v.text, .slice x v.words.length c] p)) fun e w' => e = .returned (.bool (rightV v)) ∧ Below (w.alloc (.cells #[.int .i64 v.kind, .int .i64 v.int, .string v.text, .slice x v.words.length c] p)).heap.size (w.alloc (.cells #[.int .i64 v.kind, .int .i64 v.int, .string v.text, .slice x v.words.length c] p)) w') := Lib.hid fun p => refRight_any _ v x c (h.below ((hb0.out p).2)) hl
  have H1 := Lib.hid (fun hr => within_not (v := v) hr a b)
  have H2 := Lib.hid (fun hr hk => within_all (v := v) hr hk a b)
  have H3 := Lib.hid (fun hr hk => within_words (v := v) hr hk a b)
  have H4 := Lib.hid (fun hr h1 h5 h6 => within_num (v := v) hr h1 h5 h6 a b)
  clear h hl
  obtain ⟨R, hR⟩ : ∃ R, withinV v a b = R := ⟨_, rfl⟩
  obtain ⟨T, hT⟩ : ∃ T, rightV v = T := ⟨_, rfl⟩
  rw [hR] at H1 H2 H3 H4 ⊢
  rw [hT] at H1 H2 H3 H4 HRC
  clear hR hT
  unfold argV
  obtain ⟨k, n, t, xs⟩ := v
  simp only at hb0 HRC H1 H2 H3 H4 ⊢
  obtain ⟨N, hN⟩ : ∃ N, xs.length = N := ⟨_, rfl⟩
  rw [hN] at hb0 HRC H3 ⊢
  clear hN
  cases hT : T with
  | false =>
    have HV := Lib.hid (H1.out hT)
    subst hT
    go_enter Tryz.func102, Tryz.ntmps102
    go_wp2_with fail
    refine (HRC.out _).mono ?_
    rintro e w1 ⟨rfl, hb⟩
    have HB := Lib.hid ((hb0.out 48).2.trans (hb.mono (hb0.out 48).2.size))
    clear hb
    go_wp2
    go_ret
    exact ⟨ret_bool HV.out, HB.out⟩
  | true =>
    have HT := Lib.hid hT
    subst hT
    by_cases h1 : k = 1
    · have HV := Lib.hid (H2.out rfl (Or.inl h1))
      have e1 : (k == 1) = true := beq_iff_eq.2 h1
      clear h1
      go_enter Tryz.func102, Tryz.ntmps102
      go_wp2_with fail
      refine (HRC.out _).mono ?_
      rintro e w1 ⟨rfl, hb⟩
      obtain ⟨c0, c1, c2, c3, _, _, _, _⟩ := (hb0.out 48).1.below hb
      have HB := Lib.hid ((hb0.out 48).2.trans (hb.mono (hb0.out 48).2.size))
      clear hb
      go_wp2
      go_ret
      exact ⟨ret_bool HV.out, HB.out⟩
    have e1 : (k == 1) = false := beq_eq_false_iff_ne.2 h1
    by_cases h5 : k = 5
    · have HV := Lib.hid (H2.out rfl (Or.inr h5))
      have e5 : (k == 5) = true := beq_iff_eq.2 h5
      clear h1 h5
      go_enter Tryz.func102, Tryz.ntmps102
      go_wp2_with fail
      refine (HRC.out _).mono ?_
      rintro e w1 ⟨rfl, hb⟩
      obtain ⟨c0, c1, c2, c3, _, _, _, _⟩ := (hb0.out 48).1.below hb
      have HB := Lib.hid ((hb0.out 48).2.trans (hb.mono (hb0.out 48).2.size))
      clear hb
      go_wp2
      go_ret
      exact ⟨ret_bool HV.out, HB.out⟩
    have e5 : (k == 5) = false := beq_eq_false_iff_ne.2 h5
    by_cases h6 : k = 6
    · have e6 : (k == 6) = true := beq_iff_eq.2 h6
      have HV0 := H3.out rfl h6
      clear h1 h5 h6
      by_cases ha : a ≤ N
      · have d1 : decide (a ≤ N) = true := decide_eq_true ha
        have HV : Hid (R = decide ((N : Int) ≤ b)) := Lib.hid (by rw [HV0, d1, Bool.true_and])
        clear HV0
        go_enter Tryz.func102, Tryz.ntmps102
        go_wp2_with fail
        refine (HRC.out _).mono ?_
        rintro e w1 ⟨rfl, hb⟩
        obtain ⟨c0, c1, c2, c3, _, _, _, _⟩ := (hb0.out 48).1.below hb
        have HB := Lib.hid ((hb0.out 48).2.trans (hb.mono (hb0.out 48).2.size))
        clear hb
        go_wp2
        go_ret
        exact ⟨ret_bool HV.out, HB.out⟩
      · have d1 : decide (a ≤ N) = false := decide_eq_false ha
        have HV : Hid (R = false) := Lib.hid (by rw [HV0, d1, Bool.false_and])
        clear HV0 ha
        go_enter Tryz.func102, Tryz.ntmps102
        go_wp2_with fail
        refine (HRC.out _).mono ?_
        rintro e w1 ⟨rfl, hb⟩
        obtain ⟨c0, c1, c2, c3, _, _, _, _⟩ := (hb0.out 48).1.below hb
        have HB := Lib.hid ((hb0.out 48).2.trans (hb.mono (hb0.out 48).2.size))
        clear hb
        go_wp2
        go_ret
        exact ⟨ret_bool HV.out, HB.out⟩
    · have e6 : (k == 6) = false := beq_eq_false_iff_ne.2 h6
      have HV0 := H4.out rfl h1 h5 h6
      clear h1 h5 h6
      by_cases ha : a ≤ n
      · have d1 : decide (a ≤ n) = true := decide_eq_true ha
        have HV : Hid (R = decide (n ≤ b)) := Lib.hid (by rw [HV0, d1, Bool.true_and])
        clear HV0
        go_enter Tryz.func102, Tryz.ntmps102
        go_wp2_with fail
        refine (HRC.out _).mono ?_
        rintro e w1 ⟨rfl, hb⟩
        obtain ⟨c0, c1, c2, c3, _, _, _, _⟩ := (hb0.out 48).1.below hb
        have HB := Lib.hid ((hb0.out 48).2.trans (hb.mono (hb0.out 48).2.size))
        clear hb
        go_wp2
        go_ret
        exact ⟨ret_bool HV.out, HB.out⟩
      · have d1 : decide (a ≤ n) = false := decide_eq_false ha
        have HV : Hid (R = false) := Lib.hid (by rw [HV0, d1, Bool.false_and])
        clear HV0 ha
        go_enter Tryz.func102, Tryz.ntmps102
        go_wp2_with fail
        refine (HRC.out _).mono ?_
        rintro e w1 ⟨rfl, hb⟩
        obtain ⟨c0, c1, c2, c3, _, _, _, _⟩ := (hb0.out 48).1.below hb
        have HB := Lib.hid ((hb0.out 48).2.trans (hb.mono (hb0.out 48).2.size))
        clear hb
        go_wp2
        go_ret
        exact ⟨ret_bool HV.out, HB.out⟩
end Go.Proofs.YtopghlnoklajkaaGreatDoor

namespace Go.Proofs.YtopghlnoklajkaaGreatDoor
open Go.ChangeShapes Go.WideShapes Go.ChangeAt Go.RowKit

def mayV (k : KeyV) (v : Val) : Bool := rightV v && withinV v k.least k.most && decide (v.kind = k.kind)
set_option maxHeartbeats 1600000 in
set_option maxRecDepth 100000 in
theorem smay_any (w : World) (k : KeyV) (v : Val) (x : Option Addr) (c : Nat) (h : ArgOk w v x c) (hl : v.words.length ≤ 2147483647) :
    Calls Tryz.prog 74 #[kAgg k, argV v x c] w fun e w' => e = .returned (.bool (mayV k v)) ∧ Below w.heap.size w w' := by
  have HB : Hid (∀ o1 o2, Below w.heap.size w ((w.alloc o1).alloc o2)) := Lib.hid fun o1 o2 => (below_one w o1).trans ((below_one (w.alloc o1) o2).mono (below_one w o1).size)
  have HRT : Hid (∀ W, Below w.heap.size w W → Calls Tryz.prog 107 #[argV v x c] W fun e w' => e = .returned (.bool (rightV v)) ∧ Below W.heap.size W w') := Lib.hid fun W hb => refRight_any W v x c (h.below hb) hl
  have HWT : Hid (∀ W, Below w.heap.size w W → Calls Tryz.prog 102 #[argV v x c, .int .i64 k.least, .int .i64 k.most] W fun e w' => e = .returned (.bool (withinV v k.least k.most)) ∧ Below W.heap.size W w') := Lib.hid fun W hb => refWithin_any W v x c k.least k.most (h.below hb) hl
  have HX4 : Hid (∀ o1 t2, Box4 ((w.alloc o1).alloc (Obj.cells #[.int .i64 v.kind, .int .i64 v.int, .string v.text, .slice x v.words.length c] t2)) (w.heap.size + 1) (.int .i64 v.kind) (.int .i64 v.int) (.string v.text) (.slice x v.words.length c)) := Lib.hid fun o1 t2 => by
    have := box4_new (w.alloc o1) (.int .i64 v.kind) (.int .i64 v.int) (.string v.text) (.slice x v.words.length c) t2
    rw [World.size_alloc] at this
    exact this
  have HX6 : Hid (∀ t1 o2, Box6 ((w.alloc (Obj.cells #[.string k.name, .int .i64 k.kind, .string k.dflt, .int .i64 k.least, .int .i64 k.most, .string k.letter] t1)).alloc o2) w.heap.size k) := Lib.hid fun t1 o2 => (box6_new w k t1).below (below_one _ _)
  obtain ⟨R, hR⟩ : ∃ R, mayV k v = R := ⟨_, rfl⟩
  have HR : Hid ((rightV v && withinV v k.least k.most && decide (v.kind = k.kind)) = R) := Lib.hid hR
  rw [hR]
  clear h hl hR
  generalize rightV v = r1 at *
  generalize withinV v k.least k.most = r2 at *
  obtain ⟨nm, kd, dl, la, lb, le⟩ := k
  obtain ⟨vk, vi, vt, vw⟩ := v
  unfold argV at *
  unfold kAgg
  simp only at HRT HWT HX4 HX6 HR ⊢
  go_enter Tryz.func74, Tryz.ntmps74
  go_wp2_with fail
  refine (HRT.out _ (HB.out _ _)).mono ?_
  rintro e w3 ⟨rfl, hb3⟩
  obtain ⟨c0, c1, c2, c3, _⟩ := (HX4.out _ _).below hb3
  have hx6 := (HX6.out _ _).below hb3
  have HB3 := Lib.hid ((HB.out _ _).trans (hb3.mono (HB.out _ _).size))
  have HX6b := Lib.hid hx6
  have d1 := hx6.c1
  have d3 := hx6.c3
  have d4 := hx6.c4
  simp only at d1 d3 d4
  clear hb3 hx6 HRT
  go_wp2_with fail
  refine (HWT.out _ HB3.out).mono ?_
  rintro e w4 ⟨rfl, hb4⟩
  have HB4 := Lib.hid (HB3.out.trans (hb4.mono HB3.out.size))
  have d1' : w4.cell? ⟨w.heap.size, 1, none⟩ = some (.int .i64 kd) := (hb4.cell (p := ⟨w.heap.size, 1, none⟩) (lt_of_cell d1)).trans d1
  have c0' : w4.cell? ⟨w.heap.size + 1, 0, none⟩ = some (.int .i64 vk) := (hb4.cell (p := ⟨w.heap.size + 1, 0, none⟩) (lt_of_cell c0)).trans c0
  clear hb4 c0 c1 c2 c3 d1 d3 d4 HWT HB3 HX6b HX4 HX6 HB
  cases r1 with
  | false =>
    go_wp2
    go_ret
    exact ⟨by rw [← HR.out]; rfl, HB4.out⟩
  | true =>
    cases r2 with
    | false =>
      go_wp2
      go_ret
      exact ⟨by rw [← HR.out]; rfl, HB4.out⟩
    | true =>
      have HR2 : Hid (decide (vk = kd) = R) := Lib.hid (by have := HR.out; simpa using this)
      go_wp2
      go_ret
      exact ⟨by rw [← HR2.out]; rfl, HB4.out⟩
end Go.Proofs.YtopghlnoklajkaaGreatDoor
