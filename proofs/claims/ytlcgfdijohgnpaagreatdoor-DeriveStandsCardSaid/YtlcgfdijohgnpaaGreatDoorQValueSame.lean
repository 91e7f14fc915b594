/-
  ValueSame.
-/
import Derived.Test.YtlcgfdijohgnpaaGreatDoorQValueRight
namespace Go.Proofs.YtlcgfdijohgnpaaGreatDoor
open Go.ChangeShapes Go.WideShapes Go.ChangeAt Go.RowKit

set_option maxHeartbeats 3200000 in
set_option maxRecDepth 100000 in
theorem within_any (w : World) (v : Val) (a b : Int) (x : Option Addr) (c : Nat) (h : ArgOk w v x c) (hT : Tab w) :
  Calls Tryz.prog 81 #[argV v x c, .int .i64 a, .int .i64 b] w fun e w' => e = .returned (.bool (withinV v a b)) ∧ Below w.heap.size w w' := by
 have hb0 : Hid (∀ o, Below w.heap.size w (w.alloc o)) := Lib.hid fun o => (Below.refl _ _).alloc (Nat.le_refl _) o
 have HW : Hid (withinV v a b = (rightV v && (if v.kind = 2 ∨ v.kind = 3 ∨ v.kind = 4 then decide (a ≤ v.int ∧ v.int ≤ b) else if v.kind = 6 then decide (a ≤ v.words.length ∧ (v.words.length : Int) ≤ b) else true))) := Lib.hid rfl
 obtain ⟨R, hR⟩ : ∃ R, rightV v = R := ⟨_, rfl⟩
 have HCALL : Hid (∀ o, Calls Tryz.prog 108 #[argV v x c] (w.alloc o) fun e w' => e = .returned (.bool R) ∧ Below (w.alloc o).heap.size (w.alloc o) w') := Lib.hid fun o => by
  have := right_any (w.alloc o) v x c (h.below (hb0.out o)) (hT.below (hb0.out o))
  rw [hR] at this; exact this
 have HR := Lib.hid hR
 have hlen := h.len
 clear h hT hR
 obtain ⟨k, n, t, xs⟩ := v
 simp only at HW hlen
 obtain ⟨L, hL⟩ : ∃ L, xs.length = L := ⟨_, rfl⟩
 rw [HR.out, hL] at HW
 unfold argV at HCALL ⊢
 simp only at HCALL ⊢
 rw [hL] at HCALL hlen ⊢
 clear hL HR
 cases R with
 | false =>
  have HV : Hid (withinV ⟨k, n, t, xs⟩ a b = false) := Lib.hid (by rw [HW.out]; rfl)
  clear HW
  go_enter Tryz.func81, Tryz.ntmps81
  go_wp2_with fail
  refine (HCALL.out _).mono ?_
  rintro e w1 ⟨rfl, hb⟩
  have HB := Lib.hid ((hb0.out (.cells #[.int .i64 k, .int .i64 n, .string t, .slice x L c] 37)).trans (hb.mono (hb0.out _).size))
  have HBX : Hid (Box4 w1 w.heap.size (.int .i64 k) (.int .i64 n) (.string t) (.slice x L c)) := Lib.hid ((box4_new w _ _ _ _ _).below hb)
  obtain ⟨c0, c1, c2, c3, _, _, _, _⟩ := HBX.out
  clear hb HCALL
  go_wp2
  go_ret
  exact ⟨ret_bool HV.out, HB.out⟩
 | true =>
  by_cases h2 : k = 2
  ·subst h2
   have HX : Hid (withinV ⟨2, n, t, xs⟩ a b = decide (a ≤ n ∧ n ≤ b)) := Lib.hid (by rw [HW.out]; rw [if_pos (by simp)]; rfl)
   by_cases r1 : a ≤ n
   ·have d1 : decide (a ≤ n) = true := decide_eq_true r1
    by_cases r2 : n ≤ b
    ·have d2 : decide (n ≤ b) = true := decide_eq_true r2
     have HV : Hid (withinV ⟨2, n, t, xs⟩ a b = true) := Lib.hid (by rw [HX.out]; exact decide_eq_true ⟨r1, r2⟩)
     clear r1 r2 HW
     go_enter Tryz.func81, Tryz.ntmps81
     go_wp2_with fail
     refine (HCALL.out _).mono ?_
     rintro e w1 ⟨rfl, hb⟩
     have HB := Lib.hid ((hb0.out (.cells #[.int .i64 2, .int .i64 n, .string t, .slice x L c] 37)).trans (hb.mono (hb0.out _).size))
     have HBX : Hid (Box4 w1 w.heap.size (.int .i64 2) (.int .i64 n) (.string t) (.slice x L c)) := Lib.hid ((box4_new w _ _ _ _ _).below hb)
     obtain ⟨c0, c1, c2, c3, _, _, _, _⟩ := HBX.out
     clear hb HCALL
     go_wp2
     go_ret
     exact ⟨ret_bool HV.out, HB.out⟩
    ·have d2 : decide (n ≤ b) = false := decide_eq_false r2
     have HV : Hid (withinV ⟨2, n, t, xs⟩ a b = false) := Lib.hid (by rw [HX.out]; exact decide_eq_false (fun h => r2 h.2))
     clear r1 r2 HW
     go_enter Tryz.func81, Tryz.ntmps81
     go_wp2_with fail
     refine (HCALL.out _).mono ?_
     rintro e w1 ⟨rfl, hb⟩
     have HB := Lib.hid ((hb0.out (.cells #[.int .i64 2, .int .i64 n, .string t, .slice x L c] 37)).trans (hb.mono (hb0.out _).size))
     have HBX : Hid (Box4 w1 w.heap.size (.int .i64 2) (.int .i64 n) (.string t) (.slice x L c)) := Lib.hid ((box4_new w _ _ _ _ _).below hb)
     obtain ⟨c0, c1, c2, c3, _, _, _, _⟩ := HBX.out
     clear hb HCALL
     go_wp2
     go_ret
     exact ⟨ret_bool HV.out, HB.out⟩
   ·have d1 : decide (a ≤ n) = false := decide_eq_false r1
    have HV : Hid (withinV ⟨2, n, t, xs⟩ a b = false) := Lib.hid (by rw [HX.out]; exact decide_eq_false (fun h => r1 h.1))
    clear r1 HW
    go_enter Tryz.func81, Tryz.ntmps81
    go_wp2_with fail
    refine (HCALL.out _).mono ?_
    rintro e w1 ⟨rfl, hb⟩
    have HB := Lib.hid ((hb0.out (.cells #[.int .i64 2, .int .i64 n, .string t, .slice x L c] 37)).trans (hb.mono (hb0.out _).size))
    have HBX : Hid (Box4 w1 w.heap.size (.int .i64 2) (.int .i64 n) (.string t) (.slice x L c)) := Lib.hid ((box4_new w _ _ _ _ _).below hb)
    obtain ⟨c0, c1, c2, c3, _, _, _, _⟩ := HBX.out
    clear hb HCALL
    go_wp2
    go_ret
    exact ⟨ret_bool HV.out, HB.out⟩
  by_cases h3 : k = 3
  ·subst h3
   have HX : Hid (withinV ⟨3, n, t, xs⟩ a b = decide (a ≤ n ∧ n ≤ b)) := Lib.hid (by rw [HW.out]; rw [if_pos (by simp)]; rfl)
   by_cases r1 : a ≤ n
   ·have d1 : decide (a ≤ n) = true := decide_eq_true r1
    by_cases r2 : n ≤ b
    ·have d2 : decide (n ≤ b) = true := decide_eq_true r2
     have HV : Hid (withinV ⟨3, n, t, xs⟩ a b = true) := Lib.hid (by rw [HX.out]; exact decide_eq_true ⟨r1, r2⟩)
     clear r1 r2 HW
     go_enter Tryz.func81, Tryz.ntmps81
     go_wp2_with fail
     refine (HCALL.out _).mono ?_
     rintro e w1 ⟨rfl, hb⟩
     have HB := Lib.hid ((hb0.out (.cells #[.int .i64 3, .int .i64 n, .string t, .slice x L c] 37)).trans (hb.mono (hb0.out _).size))
     have HBX : Hid (Box4 w1 w.heap.size (.int .i64 3) (.int .i64 n) (.string t) (.slice x L c)) := Lib.hid ((box4_new w _ _ _ _ _).below hb)
     obtain ⟨c0, c1, c2, c3, _, _, _, _⟩ := HBX.out
     clear hb HCALL
     go_wp2
     go_ret
     exact ⟨ret_bool HV.out, HB.out⟩
    ·have d2 : decide (n ≤ b) = false := decide_eq_false r2
     have HV : Hid (withinV ⟨3, n, t, xs⟩ a b = false) := Lib.hid (by rw [HX.out]; exact decide_eq_false (fun h => r2 h.2))
     clear r1 r2 HW
     go_enter Tryz.func81, Tryz.ntmps81
     go_wp2_with fail
     refine (HCALL.out _).mono ?_
     rintro e w1 ⟨rfl, hb⟩
     have HB := Lib.hid ((hb0.out (.cells #[.int .i64 3, .int .i64 n, .string t, .slice x L c] 37)).trans (hb.mono (hb0.out _).size))
     have HBX : Hid (Box4 w1 w.heap.size (.int .i64 3) (.int .i64 n) (.string t) (.slice x L c)) := Lib.hid ((box4_new w _ _ _ _ _).below hb)
     obtain ⟨c0, c1, c2, c3, _, _, _, _⟩ := HBX.out
     clear hb HCALL
     go_wp2
     go_ret
     exact ⟨ret_bool HV.out, HB.out⟩
   ·have d1 : decide (a ≤ n) = false := decide_eq_false r1
    have HV : Hid (withinV ⟨3, n, t, xs⟩ a b = false) := Lib.hid (by rw [HX.out]; exact decide_eq_false (fun h => r1 h.1))
    clear r1 HW
    go_enter Tryz.func81, Tryz.ntmps81
    go_wp2_with fail
    refine (HCALL.out _).mono ?_
    rintro e w1 ⟨rfl, hb⟩
    have HB := Lib.hid ((hb0.out (.cells #[.int .i64 3, .int .i64 n, .string t, .slice x L c] 37)).trans (hb.mono (hb0.out _).size))
    have HBX : Hid (Box4 w1 w.heap.size (.int .i64 3) (.int .i64 n) (.string t) (.slice x L c)) := Lib.hid ((box4_new w _ _ _ _ _).below hb)
    obtain ⟨c0, c1, c2, c3, _, _, _, _⟩ := HBX.out
    clear hb HCALL
    go_wp2
    go_ret
    exact ⟨ret_bool HV.out, HB.out⟩
  by_cases h4 : k = 4
  ·subst h4
   have HX : Hid (withinV ⟨4, n, t, xs⟩ a b = decide (a ≤ n ∧ n ≤ b)) := Lib.hid (by rw [HW.out]; rw [if_pos (by simp)]; rfl)
   by_cases r1 : a ≤ n
   ·have d1 : decide (a ≤ n) = true := decide_eq_true r1
    by_cases r2 : n ≤ b
    ·have d2 : decide (n ≤ b) = true := decide_eq_true r2
     have HV : Hid (withinV ⟨4, n, t, xs⟩ a b = true) := Lib.hid (by rw [HX.out]; exact decide_eq_true ⟨r1, r2⟩)
     clear r1 r2 HW
     go_enter Tryz.func81, Tryz.ntmps81
     go_wp2_with fail
     refine (HCALL.out _).mono ?_
     rintro e w1 ⟨rfl, hb⟩
     have HB := Lib.hid ((hb0.out (.cells #[.int .i64 4, .int .i64 n, .string t, .slice x L c] 37)).trans (hb.mono (hb0.out _).size))
     have HBX : Hid (Box4 w1 w.heap.size (.int .i64 4) (.int .i64 n) (.string t) (.slice x L c)) := Lib.hid ((box4_new w _ _ _ _ _).below hb)
     obtain ⟨c0, c1, c2, c3, _, _, _, _⟩ := HBX.out
     clear hb HCALL
     go_wp2
     go_ret
     exact ⟨ret_bool HV.out, HB.out⟩
    ·have d2 : decide (n ≤ b) = false := decide_eq_false r2
     have HV : Hid (withinV ⟨4, n, t, xs⟩ a b = false) := Lib.hid (by rw [HX.out]; exact decide_eq_false (fun h => r2 h.2))
     clear r1 r2 HW
     go_enter Tryz.func81, Tryz.ntmps81
     go_wp2_with fail
     refine (HCALL.out _).mono ?_
     rintro e w1 ⟨rfl, hb⟩
     have HB := Lib.hid ((hb0.out (.cells #[.int .i64 4, .int .i64 n, .string t, .slice x L c] 37)).trans (hb.mono (hb0.out _).size))
     have HBX : Hid (Box4 w1 w.heap.size (.int .i64 4) (.int .i64 n) (.string t) (.slice x L c)) := Lib.hid ((box4_new w _ _ _ _ _).below hb)
     obtain ⟨c0, c1, c2, c3, _, _, _, _⟩ := HBX.out
     clear hb HCALL
     go_wp2
     go_ret
     exact ⟨ret_bool HV.out, HB.out⟩
   ·have d1 : decide (a ≤ n) = false := decide_eq_false r1
    have HV : Hid (withinV ⟨4, n, t, xs⟩ a b = false) := Lib.hid (by rw [HX.out]; exact decide_eq_false (fun h => r1 h.1))
    clear r1 HW
    go_enter Tryz.func81, Tryz.ntmps81
    go_wp2_with fail
    refine (HCALL.out _).mono ?_
    rintro e w1 ⟨rfl, hb⟩
    have HB := Lib.hid ((hb0.out (.cells #[.int .i64 4, .int .i64 n, .string t, .slice x L c] 37)).trans (hb.mono (hb0.out _).size))
    have HBX : Hid (Box4 w1 w.heap.size (.int .i64 4) (.int .i64 n) (.string t) (.slice x L c)) := Lib.hid ((box4_new w _ _ _ _ _).below hb)
    obtain ⟨c0, c1, c2, c3, _, _, _, _⟩ := HBX.out
    clear hb HCALL
    go_wp2
    go_ret
    exact ⟨ret_bool HV.out, HB.out⟩
  by_cases h6 : k = 6
  ·subst h6
   have HX : Hid (withinV ⟨6, n, t, xs⟩ a b = decide (a ≤ (L : Int) ∧ (L : Int) ≤ b)) := Lib.hid (by rw [HW.out]; rw [if_neg (by simp), if_pos rfl]; rfl)
   by_cases r1 : a ≤ (L : Int)
   ·have d1 : decide (a ≤ (L : Int)) = true := decide_eq_true r1
    by_cases r2 : (L : Int) ≤ b
    ·have d2 : decide ((L : Int) ≤ b) = true := decide_eq_true r2
     have HV : Hid (withinV ⟨6, n, t, xs⟩ a b = true) := Lib.hid (by rw [HX.out]; exact decide_eq_true ⟨r1, r2⟩)
     clear r1 r2 HW
     go_enter Tryz.func81, Tryz.ntmps81
     go_wp2_with fail
     refine (HCALL.out _).mono ?_
     rintro e w1 ⟨rfl, hb⟩
     have HB := Lib.hid ((hb0.out (.cells #[.int .i64 6, .int .i64 n, .string t, .slice x L c] 37)).trans (hb.mono (hb0.out _).size))
     have HBX : Hid (Box4 w1 w.heap.size (.int .i64 6) (.int .i64 n) (.string t) (.slice x L c)) := Lib.hid ((box4_new w _ _ _ _ _).below hb)
     obtain ⟨c0, c1, c2, c3, _, _, _, _⟩ := HBX.out
     clear hb HCALL
     go_wp2
     go_ret
     exact ⟨ret_bool HV.out, HB.out⟩
    ·have d2 : decide ((L : Int) ≤ b) = false := decide_eq_false r2
     have HV : Hid (withinV ⟨6, n, t, xs⟩ a b = false) := Lib.hid (by rw [HX.out]; exact decide_eq_false (fun h => r2 h.2))
     clear r1 r2 HW
     go_enter Tryz.func81, Tryz.ntmps81
     go_wp2_with fail
     refine (HCALL.out _).mono ?_
     rintro e w1 ⟨rfl, hb⟩
     have HB := Lib.hid ((hb0.out (.cells #[.int .i64 6, .int .i64 n, .string t, .slice x L c] 37)).trans (hb.mono (hb0.out _).size))
     have HBX : Hid (Box4 w1 w.heap.size (.int .i64 6) (.int .i64 n) (.string t) (.slice x L c)) := Lib.hid ((box4_new w _ _ _ _ _).below hb)
     obtain ⟨c0, c1, c2, c3, _, _, _, _⟩ := HBX.out
     clear hb HCALL
     go_wp2
     go_ret
     exact ⟨ret_bool HV.out, HB.out⟩
   ·have d1 : decide (a ≤ (L : Int)) = false := decide_eq_false r1
    have HV : Hid (withinV ⟨6, n, t, xs⟩ a b = false) := Lib.hid (by rw [HX.out]; exact decide_eq_false (fun h => r1 h.1))
    clear r1 HW
    go_enter Tryz.func81, Tryz.ntmps81
    go_wp2_with fail
    refine (HCALL.out _).mono ?_
    rintro e w1 ⟨rfl, hb⟩
    have HB := Lib.hid ((hb0.out (.cells #[.int .i64 6, .int .i64 n, .string t, .slice x L c] 37)).trans (hb.mono (hb0.out _).size))
    have HBX : Hid (Box4 w1 w.heap.size (.int .i64 6) (.int .i64 n) (.string t) (.slice x L c)) := Lib.hid ((box4_new w _ _ _ _ _).below hb)
    obtain ⟨c0, c1, c2, c3, _, _, _, _⟩ := HBX.out
    clear hb HCALL
    go_wp2
    go_ret
    exact ⟨ret_bool HV.out, HB.out⟩
  have HV : Hid (withinV ⟨k, n, t, xs⟩ a b = true) := Lib.hid (by rw [HW.out, if_neg (by omega), if_neg h6]; rfl)
  have e2 : (k == 2) = false := beq_eq_false_iff_ne.2 h2
  have e3 : (k == 3) = false := beq_eq_false_iff_ne.2 h3
  have e4 : (k == 4) = false := beq_eq_false_iff_ne.2 h4
  have e6 : (k == 6) = false := beq_eq_false_iff_ne.2 h6
  clear h2 h3 h4 h6 HW
  go_enter Tryz.func81, Tryz.ntmps81
  go_wp2_with fail
  refine (HCALL.out _).mono ?_
  rintro e w1 ⟨rfl, hb⟩
  have HB := Lib.hid ((hb0.out (.cells #[.int .i64 k, .int .i64 n, .string t, .slice x L c] 37)).trans (hb.mono (hb0.out _).size))
  have HBX : Hid (Box4 w1 w.heap.size (.int .i64 k) (.int .i64 n) (.string t) (.slice x L c)) := Lib.hid ((box4_new w _ _ _ _ _).below hb)
  obtain ⟨c0, c1, c2, c3, _, _, _, _⟩ := HBX.out
  clear hb HCALL
  go_wp2
  go_ret
  exact ⟨ret_bool HV.out, HB.out⟩
end Go.Proofs.YtlcgfdijohgnpaaGreatDoor
