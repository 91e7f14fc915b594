/-
  ValueSame, ValueLists, KeyLetter, ValueArg, But.
-/
import Derived.Test.YtopghlnoklajkaaGreatDoorQValueRight
import Derived.Test.YtopghlnoklajkaaGreatDoorQValuePrint
import Derived.Deep.RegionHeld3
import Derived.Test.YtopghlnoklajkaaGreatDoorQKeyFind
import Derived.Test.YtopghlnoklajkaaGreatDoorQValueParse
import Derived.Laws.Rows
import Derived.Below
import Derived.WalkKit
namespace Go.Proofs.YtopghlnoklajkaaGreatDoor
open Go.ChangeShapes Go.WideShapes Go.ChangeAt Go.RowKit

set_option maxHeartbeats 3200000 in
set_option maxRecDepth 100000 in
theorem within_any (w : World) (v : Val) (a b : Int) (x : Option Addr) (c : Nat) (h : ArgOk w v x c) (hT : Tab w) :
    Calls Tryz.prog 87 #[argV v x c, .int .i64 a, .int .i64 b] w fun e w' => e = .returned (.bool (withinV v a b)) ∧ Below w.heap.size w w' := by
  have hb0 : Hid (∀ o, Below w.heap.size w (w.alloc o)) := Lib.hid fun o => (Below.refl _ _).alloc (Nat.le_refl _) o
  have HW : Hid (withinV v a b = (rightV v && (if v.kind = 2 ∨ v.kind = 3 ∨ v.kind = 4 then decide (a ≤ v.int ∧ v.int ≤ b) else if v.kind = 6 then decide (a ≤ v.words.length ∧ (v.words.length : Int) ≤ b) else true))) := Lib.hid rfl
  obtain ⟨R, hR⟩ : ∃ R, rightV v = R := ⟨_, rfl⟩
  have HCALL : Hid (∀ o, Calls Tryz.prog 82 #[argV v x c] (w.alloc o) fun e w' => e = .returned (.bool R) ∧ Below (w.alloc o).heap.size (w.alloc o) w') := Lib.hid fun o => by
    have := right_any (w.alloc o) v x c (h.below (hb0.out o)) (hT.below (hb0.out o))
    rw [hR] at this; exact this
  have HR := Lib.hid hR
  have hlen := h.len
  clear h hT hR
  obtain ⟨k, n, t, xs⟩ := v
  simp only at HW hlen
  obtain ⟨L, hL⟩ : ∃ L, xs.length = L := ⟨_, rfl⟩
  rw [HR.out, hL] at HW
  unfold argV at HCALL ⊢
  simp only at HCALL ⊢
  rw [hL] at HCALL hlen ⊢
  clear hL HR
  cases R with
  | false =>
    have HV : Hid (withinV ⟨k, n, t, xs⟩ a b = false) := Lib.hid (by rw [HW.out]; rfl)
    clear HW
    go_enter Tryz.func87, Tryz.ntmps87
    go_wp2_with fail
    refine (HCALL.out _).mono ?_
    rintro e w1 ⟨rfl, hb⟩
    have HB := Lib.hid ((hb0.out (.cells #[.int .i64 k, .int .i64 n, .string t, .slice x L c] 48)).trans (hb.mono (hb0.out _).size))
    have HBX : Hid (Box4 w1 w.heap.size (.int .i64 k) (.int .i64 n) (.string t) (.slice x L c)) := Lib.hid ((box4_new w _ _ _ _ _).below hb)
    obtain ⟨c0, c1, c2, c3, _, _, _, _⟩ := HBX.out
    clear hb HCALL
    go_wp2
    go_ret
    exact ⟨ret_bool HV.out, HB.out⟩
  | true =>
    by_cases h2 : k = 2
    · subst h2
      have HX : Hid (withinV ⟨2, n, t, xs⟩ a b = decide (a ≤ n ∧ n ≤ b)) := Lib.hid (by rw [HW.out]; rw [if_pos (by simp)]; rfl)
      by_cases r1 : a ≤ n
      · have d1 : decide (a ≤ n) = true := decide_eq_true r1
        by_cases r2 : n ≤ b
        · have d2 : decide (n ≤ b) = true := decide_eq_true r2
          have HV : Hid (withinV ⟨2, n, t, xs⟩ a b = true) := Lib.hid (by rw [HX.out]; exact decide_eq_true ⟨r1, r2⟩)
          clear r1 r2 HW
          go_enter Tryz.func87, Tryz.ntmps87
          go_wp2_with fail
          refine (HCALL.out _).mono ?_
          rintro e w1 ⟨rfl, hb⟩
          have HB := Lib.hid ((hb0.out (.cells #[.int .i64 2, .int .i64 n, .string t, .slice x L c] 48)).trans (hb.mono (hb0.out _).size))
          have HBX : Hid (Box4 w1 w.heap.size (.int .i64 2) (.int .i64 n) (.string t) (.slice x L c)) := Lib.hid ((box4_new w _ _ _ _ _).below hb)
          obtain ⟨c0, c1, c2, c3, _, _, _, _⟩ := HBX.out
          clear hb HCALL
          go_wp2
          go_ret
          exact ⟨ret_bool HV.out, HB.out⟩
        · have d2 : decide (n ≤ b) = false := decide_eq_false r2
          have HV : Hid (withinV ⟨2, n, t, xs⟩ a b = false) := Lib.hid (by rw [HX.out]; exact decide_eq_false (fun h => r2 h.2))
          clear r1 r2 HW
          go_enter Tryz.func87, Tryz.ntmps87
          go_wp2_with fail
          refine (HCALL.out _).mono ?_
          rintro e w1 ⟨rfl, hb⟩
          have HB := Lib.hid ((hb0.out (.cells #[.int .i64 2, .int .i64 n, .string t, .slice x L c] 48)).trans (hb.mono (hb0.out _).size))
          have HBX : Hid (Box4 w1 w.heap.size (.int .i64 2) (.int .i64 n) (.string t) (.slice x L c)) := Lib.hid ((box4_new w _ _ _ _ _).below hb)
          obtain ⟨c0, c1, c2, c3, _, _, _, _⟩ := HBX.out
          clear hb HCALL
          go_wp2
          go_ret
          exact ⟨ret_bool HV.out, HB.out⟩
      · have d1 : decide (a ≤ n) = false := decide_eq_false r1
        have HV : Hid (withinV ⟨2, n, t, xs⟩ a b = false) := Lib.hid (by rw [HX.out]; exact decide_eq_false (fun h => r1 h.1))
        clear r1 HW
        go_enter Tryz.func87, Tryz.ntmps87
        go_wp2_with fail
        refine (HCALL.out _).mono ?_
        rintro e w1 ⟨rfl, hb⟩
        have HB := Lib.hid ((hb0.out (.cells #[.int .i64 2, .int .i64 n, .string t, .slice x L c] 48)).trans (hb.mono (hb0.out _).size))
        have HBX : Hid (Box4 w1 w.heap.size (.int .i64 2) (.int .i64 n) (.string t) (.slice x L c)) := Lib.hid ((box4_new w _ _ _ _ _).below hb)
        obtain ⟨c0, c1, c2, c3, _, _, _, _⟩ := HBX.out
        clear hb HCALL
        go_wp2
        go_ret
        exact ⟨ret_bool HV.out, HB.out⟩
    by_cases h3 : k = 3
    · subst h3
      have HX : Hid (withinV ⟨3, n, t, xs⟩ a b = decide (a ≤ n ∧ n ≤ b)) := Lib.hid (by rw [HW.out]; rw [if_pos (by simp)]; rfl)
      by_cases r1 : a ≤ n
      · have d1 : decide (a ≤ n) = true := decide_eq_true r1
        by_cases r2 : n ≤ b
        · have d2 : decide (n ≤ b) = true := decide_eq_true r2
          have HV : Hid (withinV ⟨3, n, t, xs⟩ a b = true) := Lib.hid (by rw [HX.out]; exact decide_eq_true ⟨r1, r2⟩)
          clear r1 r2 HW
          go_enter Tryz.func87, Tryz.ntmps87
          go_wp2_with fail
          refine (HCALL.out _).mono ?_
          rintro e w1 ⟨rfl, hb⟩
          have HB := Lib.hid ((hb0.out (.cells #[.int .i64 3, .int .i64 n, .string t, .slice x L c] 48)).trans (hb.mono (hb0.out _).size))
          have HBX : Hid (Box4 w1 w.heap.size (.int .i64 3) (.int .i64 n) (.string t) (.slice x L c)) := Lib.hid ((box4_new w _ _ _ _ _).below hb)
          obtain ⟨c0, c1, c2, c3, _, _, _, _⟩ := HBX.out
          clear hb HCALL
          go_wp2
          go_ret
          exact ⟨ret_bool HV.out, HB.out⟩
        · have d2 : decide (n ≤ b) = false := decide_eq_false r2
          have HV : Hid (withinV ⟨3, n, t, xs⟩ a b = false) := Lib.hid (by rw [HX.out]; exact decide_eq_false (fun h => r2 h.2))
          clear r1 r2 HW
          go_enter Tryz.func87, Tryz.ntmps87
          go_wp2_with fail
          refine (HCALL.out _).mono ?_
          rintro e w1 ⟨rfl, hb⟩
          have HB := Lib.hid ((hb0.out (.cells #[.int .i64 3, .int .i64 n, .string t, .slice x L c] 48)).trans (hb.mono (hb0.out _).size))
          have HBX : Hid (Box4 w1 w.heap.size (.int .i64 3) (.int .i64 n) (.string t) (.slice x L c)) := Lib.hid ((box4_new w _ _ _ _ _).below hb)
          obtain ⟨c0, c1, c2, c3, _, _, _, _⟩ := HBX.out
          clear hb HCALL
          go_wp2
          go_ret
          exact ⟨ret_bool HV.out, HB.out⟩
      · have d1 : decide (a ≤ n) = false := decide_eq_false r1
        have HV : Hid (withinV ⟨3, n, t, xs⟩ a b = false) := Lib.hid (by rw [HX.out]; exact decide_eq_false (fun h => r1 h.1))
        clear r1 HW
        go_enter Tryz.func87, Tryz.ntmps87
        go_wp2_with fail
        refine (HCALL.out _).mono ?_
        rintro e w1 ⟨rfl, hb⟩
        have HB := Lib.hid ((hb0.out (.cells #[.int .i64 3, .int .i64 n, .string t, .slice x L c] 48)).trans (hb.mono (hb0.out _).size))
        have HBX : Hid (Box4 w1 w.heap.size (.int .i64 3) (.int .i64 n) (.string t) (.slice x L c)) := Lib.hid ((box4_new w _ _ _ _ _).below hb)
        obtain ⟨c0, c1, c2, c3, _, _, _, _⟩ := HBX.out
        clear hb HCALL
        go_wp2
        go_ret
        exact ⟨ret_bool HV.out, HB.out⟩
    by_cases h4 : k = 4
    · subst h4
      have HX : Hid (withinV ⟨4, n, t, xs⟩ a b = decide (a ≤ n ∧ n ≤ b)) := Lib.hid (by rw [HW.out]; rw [if_pos (by simp)]; rfl)
      by_cases r1 : a ≤ n
      · have d1 : decide (a ≤ n) = true := decide_eq_true r1
        by_cases r2 : n ≤ b
        · have d2 : decide (n ≤ b) = true := decide_eq_true r2
          have HV : Hid (withinV ⟨4, n, t, xs⟩ a b = true) := Lib.hid (by rw [HX.out]; exact decide_eq_true ⟨r1, r2⟩)
          clear r1 r2 HW
          go_enter Tryz.func87, Tryz.ntmps87
          go_wp2_with fail
          refine (HCALL.out _).mono ?_
          rintro e w1 ⟨rfl, hb⟩
          have HB := Lib.hid ((hb0.out (.cells #[.int .i64 4, .int .i64 n, .string t, .slice x L c] 48)).trans (hb.mono (hb0.out _).size))
          have HBX : Hid (Box4 w1 w.heap.size (.int .i64 4) (.int .i64 n) (.string t) (.slice x L c)) := Lib.hid ((box4_new w _ _ _ _ _).below hb)
          obtain ⟨c0, c1, c2, c3, _, _, _, _⟩ := HBX.out
          clear hb HCALL
          go_wp2
          go_ret
          exact ⟨ret_bool HV.out, HB.out⟩
        · have d2 : decide (n ≤ b) = false := decide_eq_false r2
          have HV : Hid (withinV ⟨4, n, t, xs⟩ a b = false) := Lib.hid (by rw [HX.out]; exact decide_eq_false (fun h => r2 h.2))
          clear r1 r2 HW
          go_enter Tryz.func87, Tryz.ntmps87
          go_wp2_with fail
          refine (HCALL.out _).mono ?_
          rintro e w1 ⟨rfl, hb⟩
          have HB := Lib.hid ((hb0.out (.cells #[.int .i64 4, .int .i64 n, .string t, .slice x L c] 48)).trans (hb.mono (hb0.out _).size))
          have HBX : Hid (Box4 w1 w.heap.size (.int .i64 4) (.int .i64 n) (.string t) (.slice x L c)) := Lib.hid ((box4_new w _ _ _ _ _).below hb)
          obtain ⟨c0, c1, c2, c3, _, _, _, _⟩ := HBX.out
          clear hb HCALL
          go_wp2
          go_ret
          exact ⟨ret_bool HV.out, HB.out⟩
      · have d1 : decide (a ≤ n) = false := decide_eq_false r1
        have HV : Hid (withinV ⟨4, n, t, xs⟩ a b = false) := Lib.hid (by rw [HX.out]; exact decide_eq_false (fun h => r1 h.1))
        clear r1 HW
        go_enter Tryz.func87, Tryz.ntmps87
        go_wp2_with fail
        refine (HCALL.out _).mono ?_
        rintro e w1 ⟨rfl, hb⟩
        have HB := Lib.hid ((hb0.out (.cells #[.int .i64 4, .int .i64 n, .string t, .slice x L c] 48)).trans (hb.mono (hb0.out _).size))
        have HBX : Hid (Box4 w1 w.heap.size (.int .i64 4) (.int .i64 n) (.string t) (.slice x L c)) := Lib.hid ((box4_new w _ _ _ _ _).below hb)
        obtain ⟨c0, c1, c2, c3, _, _, _, _⟩ := HBX.out
        clear hb HCALL
        go_wp2
        go_ret
        exact ⟨ret_bool HV.out, HB.out⟩
    by_cases h6 : k = 6
    · subst h6
      have HX : Hid (withinV ⟨6, n, t, xs⟩ a b = decide (a ≤ (L : Int) ∧ (L : Int) ≤ b)) := Lib.hid (by rw [HW.out]; rw [if_neg (by simp), if_pos rfl]; rfl)
      by_cases r1 : a ≤ (L : Int)
      · have d1 : decide (a ≤ (L : Int)) = true := decide_eq_true r1
        by_cases r2 : (L : Int) ≤ b
        · have d2 : decide ((L : Int) ≤ b) = true := decide_eq_true r2
          have HV : Hid (withinV ⟨6, n, t, xs⟩ a b = true) := Lib.hid (by rw [HX.out]; exact decide_eq_true ⟨r1, r2⟩)
          clear r1 r2 HW
          go_enter Tryz.func87, Tryz.ntmps87
          go_wp2_with fail
          refine (HCALL.out _).mono ?_
          rintro e w1 ⟨rfl, hb⟩
          have HB := Lib.hid ((hb0.out (.cells #[.int .i64 6, .int .i64 n, .string t, .slice x L c] 48)).trans (hb.mono (hb0.out _).size))
          have HBX : Hid (Box4 w1 w.heap.size (.int .i64 6) (.int .i64 n) (.string t) (.slice x L c)) := Lib.hid ((box4_new w _ _ _ _ _).below hb)
          obtain ⟨c0, c1, c2, c3, _, _, _, _⟩ := HBX.out
          clear hb HCALL
          go_wp2
          go_ret
          exact ⟨ret_bool HV.out, HB.out⟩
        · have d2 : decide ((L : Int) ≤ b) = false := decide_eq_false r2
          have HV : Hid (withinV ⟨6, n, t, xs⟩ a b = false) := Lib.hid (by rw [HX.out]; exact decide_eq_false (fun h => r2 h.2))
          clear r1 r2 HW
          go_enter Tryz.func87, Tryz.ntmps87
          go_wp2_with fail
          refine (HCALL.out _).mono ?_
          rintro e w1 ⟨rfl, hb⟩
          have HB := Lib.hid ((hb0.out (.cells #[.int .i64 6, .int .i64 n, .string t, .slice x L c] 48)).trans (hb.mono (hb0.out _).size))
          have HBX : Hid (Box4 w1 w.heap.size (.int .i64 6) (.int .i64 n) (.string t) (.slice x L c)) := Lib.hid ((box4_new w _ _ _ _ _).below hb)
          obtain ⟨c0, c1, c2, c3, _, _, _, _⟩ := HBX.out
          clear hb HCALL
          go_wp2
          go_ret
          exact ⟨ret_bool HV.out, HB.out⟩
      · have d1 : decide (a ≤ (L : Int)) = false := decide_eq_false r1
        have HV : Hid (withinV ⟨6, n, t, xs⟩ a b = false) := Lib.hid (by rw [HX.out]; exact decide_eq_false (fun h => r1 h.1))
        clear r1 HW
        go_enter Tryz.func87, Tryz.ntmps87
        go_wp2_with fail
        refine (HCALL.out _).mono ?_
        rintro e w1 ⟨rfl, hb⟩
        have HB := Lib.hid ((hb0.out (.cells #[.int .i64 6, .int .i64 n, .string t, .slice x L c] 48)).trans (hb.mono (hb0.out _).size))
        have HBX : Hid (Box4 w1 w.heap.size (.int .i64 6) (.int .i64 n) (.string t) (.slice x L c)) := Lib.hid ((box4_new w _ _ _ _ _).below hb)
        obtain ⟨c0, c1, c2, c3, _, _, _, _⟩ := HBX.out
        clear hb HCALL
        go_wp2
        go_ret
        exact ⟨ret_bool HV.out, HB.out⟩
    have HV : Hid (withinV ⟨k, n, t, xs⟩ a b = true) := Lib.hid (by rw [HW.out, if_neg (by omega), if_neg h6]; rfl)
    have e2 : (k == 2) = false := beq_eq_false_iff_ne.2 h2
    have e3 : (k == 3) = false := beq_eq_false_iff_ne.2 h3
    have e4 : (k == 4) = false := beq_eq_false_iff_ne.2 h4
    have e6 : (k == 6) = false := beq_eq_false_iff_ne.2 h6
    clear h2 h3 h4 h6 HW
    go_enter Tryz.func87, Tryz.ntmps87
    go_wp2_with fail
    refine (HCALL.out _).mono ?_
    rintro e w1 ⟨rfl, hb⟩
    have HB := Lib.hid ((hb0.out (.cells #[.int .i64 k, .int .i64 n, .string t, .slice x L c] 48)).trans (hb.mono (hb0.out _).size))
    have HBX : Hid (Box4 w1 w.heap.size (.int .i64 k) (.int .i64 n) (.string t) (.slice x L c)) := Lib.hid ((box4_new w _ _ _ _ _).below hb)
    obtain ⟨c0, c1, c2, c3, _, _, _, _⟩ := HBX.out
    clear hb HCALL
    go_wp2
    go_ret
    exact ⟨ret_bool HV.out, HB.out⟩
end Go.Proofs.YtopghlnoklajkaaGreatDoor

namespace Go.Proofs.YtopghlnoklajkaaGreatDoor
open Go.ChangeShapes Go.WideShapes Go.ChangeAt Go.RowKit

end Go.Proofs.YtopghlnoklajkaaGreatDoor

namespace Go.Proofs.YtopghlnoklajkaaGreatDoor
open Go.ChangeShapes Go.WideShapes Go.ChangeAt Go.RowKit

/-- The definition of a letter; of the empty one none. -/
def letterB (l : ByteArray) (k : KeyV) : Bool := !decide (k.letter = ⟨#[]⟩) && decide (k.letter = l)
def letterK (xs : List KeyV) (l : ByteArray) : Option KeyV := xs.find? (letterB l)
theorem letter_drop {xs : List KeyV} {l : ByteArray} {t : Nat} (h : t < xs.length) : letterK (xs.drop t) l = if letterB l xs[t] then some xs[t] else letterK (xs.drop (t + 1)) l := by
  unfold letterK
  rw [List.drop_eq_getElem_cons h, List.find?_cons]
  cases letterB l xs[t] <;> rfl
def oAgg (r : Option KeyV) : Value := .tuple #[kAgg (r.getD kZero), .bool r.isSome]

set_option maxHeartbeats 1600000 in
set_option maxRecDepth 100000 in
theorem letter_any (xs : List KeyV) (l : ByteArray) (S : Nat) (x : Option Addr) (c : Nat) (w : World) (h : SetAt w S x c xs) (hn : xs.length ≤ 1000000) :
    Calls Tryz.prog 61 #[.pointer (some ⟨S, 0, none⟩), .string l] w fun e w' => e = .returned (oAgg (letterK xs l)) ∧ Below w.heap.size w w' := by
  have HS := Lib.hid h
  have c0 : ∀ t, (w.alloc (Obj.cells #[.string ⟨#[]⟩, .int .i64 0, .string ⟨#[]⟩, .int .i64 0, .int .i64 0, .string ⟨#[]⟩] t)).cell? ⟨S, 0, none⟩ = some (.slice x xs.length c) := fun t => (h.below (below_one w _)).cell
  have HZ : Hid (∀ t, Box6 (w.alloc (Obj.cells #[.string ⟨#[]⟩, .int .i64 0, .string ⟨#[]⟩, .int .i64 0, .int .i64 0, .string ⟨#[]⟩] t)) w.heap.size kZero ∧ Below w.heap.size w (w.alloc (Obj.cells #[.string ⟨#[]⟩, .int .i64 0, .string ⟨#[]⟩, .int .i64 0, .int .i64 0, .string ⟨#[]⟩] t))) := Lib.hid fun t => ⟨box6_new w kZero t, below_one w _⟩
  have HD : Hid (letterK (xs.drop 0) l = letterK xs l) := Lib.hid rfl
  obtain ⟨r, hr⟩ : ∃ r, letterK xs l = r := ⟨_, rfl⟩
  rw [hr] at HD ⊢
  obtain ⟨n, hn'⟩ : ∃ n, xs.length = n := ⟨_, rfl⟩
  have HN := Lib.hid hn'
  rw [hn'] at hn c0
  clear h hr hn'
  go_enter Tryz.func61, Tryz.ntmps61
  go_wp2
  go_loopw [13, 7] (fun i _ wr => ∃ t : Nat, i = .int .i64 t ∧ t ≤ n ∧ Hid (Below w.heap.size w wr ∧ Box6 wr w.heap.size kZero ∧ letterK (xs.drop t) l = r)) (fun i _ _ => n - (intOf i).toNat)
  case atStart => exact ⟨0, rfl, by omega, Lib.hid ⟨(HZ.out _).2, (HZ.out _).1, HD.out⟩⟩
  case round =>
    clear HD HZ c0
    obtain ⟨t, rfl, ht, HK⟩ := hrel
    by_cases hlt : t < n
    · have htx : t < xs.length := by rw [HN.out]; exact hlt
      obtain ⟨b, hxe, hbl, c0, c1, c2, c3, c4, c5⟩ := (HS.out.keys.below HK.out.1) t htx
      have hd := letter_drop (l := l) htx
      generalize xs[t] = k at c0 c1 c2 c3 c4 c5 hd
      obtain ⟨kn, kk, kd, kl, km, kt⟩ := k
      simp only at c0 c1 c2 c3 c4 c5
      have HE := Lib.hid (HK.out.2.2.symm.trans hd)
      have q1 : (0 : Int) ≤ t := by omega
      have q2 : (t : Int) < n := by omega
      subst hxe
      clear hd htx
      have HB6 : Hid (∀ p, Below w.heap.size w (wr.alloc (Obj.cells #[.string kn, .int .i64 kk, .string kd, .int .i64 kl, .int .i64 km, .string kt] p)) ∧ Box6 (wr.alloc (Obj.cells #[.string kn, .int .i64 kk, .string kd, .int .i64 kl, .int .i64 km, .string kt] p)) w.heap.size kZero) := Lib.hid fun p => ⟨HK.out.1.trans ((below_one wr _).mono HK.out.1.size), HK.out.2.1.below (below_one wr _)⟩
      by_cases he : kt = ⟨#[]⟩
      · have HN2 : Hid (letterK (xs.drop (t + 1)) l = r) := Lib.hid (by
          have h1 := HE.out
          rw [show letterB l ⟨kn, kk, kd, kl, km, kt⟩ = false by unfold letterB; rw [decide_eq_true he]; rfl] at h1
          exact h1.symm)
        subst he
        clear HE
        go_wp2
        go_roundw
        case rel => exact ⟨t + 1, by go_num, by omega, Lib.hid ⟨(HB6.out _).1, (HB6.out _).2, HN2.out⟩⟩
        case measure => simp [intOf]; omega
      have d1 : kt.toList.isEmpty = false := emp_false' (fun h => he (by rw [← mkB_self kt, h]; rfl))
      by_cases hl : kt = l
      · have HR : Hid (r = some ⟨kn, kk, kd, kl, km, kt⟩) := Lib.hid (by
          have h1 := HE.out
          rw [show letterB l ⟨kn, kk, kd, kl, km, kt⟩ = true by unfold letterB; rw [decide_eq_false he, decide_eq_true hl]; rfl] at h1
          exact h1)
        subst hl
        clear HE he
        have HS6 : Hid (∀ p, Box6 (set6 (wr.alloc (Obj.cells #[.string kn, .int .i64 kk, .string kd, .int .i64 kl, .int .i64 km, .string kt] p)) w.heap.size ⟨kn, kk, kd, kl, km, kt⟩) w.heap.size ⟨kn, kk, kd, kl, km, kt⟩ ∧ Below w.heap.size w (set6 (wr.alloc (Obj.cells #[.string kn, .int .i64 kk, .string kd, .int .i64 kl, .int .i64 km, .string kt] p)) w.heap.size ⟨kn, kk, kd, kl, km, kt⟩)) := Lib.hid fun p => ⟨(HB6.out p).2.set6 _, below_set6 (HB6.out p).1 (Nat.le_refl _) _⟩
        obtain ⟨b0, b1, b2, b3, b4, b5, bf⟩ := (HB6.out 73).2
        have f0 := bf 0 (by decide)
        have f1 := bf 1 (by decide)
        have f2 := bf 2 (by decide)
        have f3 := bf 3 (by decide)
        have f4 := bf 4 (by decide)
        have f5 := bf 5 (by decide)
        obtain ⟨g0, g1, g2, g3, g4, g5, _⟩ := (HS6.out 73).1
        have HF := Lib.hid (HS6.out 73).2
        unfold set6 at g0 g1 g2 g3 g4 g5 HF
        simp only at g0 g1 g2 g3 g4 g5 HF
        clear bf HS6 HB6
        go_wp2
        exact bodyPost_ret (v := .tuple #[.agg #[.string kn, .int .i64 kk, .string kd, .int .i64 kl, .int .i64 km, .string kt], .bool true]) (by simp [results, Tryz.results61, go_sem, g0, g1, g2, g3, g4, g5]) rfl ⟨ret_val (by rw [HR.out]; rfl), HF.out⟩
      · have HN2 : Hid (letterK (xs.drop (t + 1)) l = r) := Lib.hid (by
          have h1 := HE.out
          rw [show letterB l ⟨kn, kk, kd, kl, km, kt⟩ = false by unfold letterB; rw [decide_eq_false hl, Bool.and_false]] at h1
          exact h1.symm)
        have d3 : (kt.toList == l.toList) = false := beq_eq_false_iff_ne.2 (fun h => hl (toList_inj h))
        clear HE he hl
        go_wp2
        go_roundw
        case rel => exact ⟨t + 1, by go_num, by omega, Lib.hid ⟨(HB6.out _).1, (HB6.out _).2, HN2.out⟩⟩
        case measure => simp [intOf]; omega
    · have HR : Hid (r = none) := Lib.hid (by
        have h1 := HK.out.2.2
        rw [List.drop_eq_nil_of_le (by rw [HN.out]; omega)] at h1
        exact h1.symm)
      have q2 : ¬ (t : Int) < n := by omega
      have HS6 : Hid (Box6 (set6 wr w.heap.size kZero) w.heap.size kZero ∧ Below w.heap.size w (set6 wr w.heap.size kZero)) := Lib.hid ⟨HK.out.2.1.set6 _, below_set6 HK.out.1 (Nat.le_refl _) _⟩
      obtain ⟨b0, b1, b2, b3, b4, b5, bf⟩ := HK.out.2.1
      have f0 := bf 0 (by decide)
      have f1 := bf 1 (by decide)
      have f2 := bf 2 (by decide)
      have f3 := bf 3 (by decide)
      have f4 := bf 4 (by decide)
      have f5 := bf 5 (by decide)
      obtain ⟨g0, g1, g2, g3, g4, g5, _⟩ := HS6.out.1
      have HF := Lib.hid HS6.out.2
      unfold kZero at b0 b1 b2 b3 b4 b5
      unfold set6 kZero at g0 g1 g2 g3 g4 g5 HF
      simp only at b0 b1 b2 b3 b4 b5 g0 g1 g2 g3 g4 g5 HF
      clear bf HS6
      go_wp2
      exact bodyPost_ret (v := .tuple #[.agg #[.string ⟨#[]⟩, .int .i64 0, .string ⟨#[]⟩, .int .i64 0, .int .i64 0, .string ⟨#[]⟩], .bool false]) (by simp [results, Tryz.results61, go_sem, g0, g1, g2, g3, g4, g5]) rfl ⟨ret_val (by rw [HR.out]; rfl), HF.out⟩
end Go.Proofs.YtopghlnoklajkaaGreatDoor

namespace Go.Proofs.YtopghlnoklajkaaGreatDoor
open Go.ChangeShapes Go.WideShapes Go.ChangeAt Go.RowKit

theorem OwnT.arg {B : Nat} {w : World} {v : Val} {x : Option Addr} {cap : Nat} (h : OwnT B w x cap v.words) (hl : v.words.length ≤ 2147483647) (hs : ∀ k (h : k < v.words.length), v.words[k].size ≤ maxLen) (ht : v.text.size ≤ maxLen) : ArgOk w v x cap := by
  rcases h with ⟨rfl, hn, rfl⟩ | ⟨g, rfl, _, rfl, _, hg⟩
  · exact ⟨by rw [hn]; exact Txts.nil_ _ _, by rw [hn]; exact Nat.le_refl _, by omega, hs, ht⟩
  · refine ⟨fun k hk => ⟨g, 0, rfl, (Array.getElem?_eq_some_iff.1 hg).1, ?_⟩, Nat.le_refl _, by omega, hs, ht⟩
    rw [cell_of_row w g (0 + k) _ _ _ hg]; simp [hk]
theorem right_bounds {v : Val} (h : rightV v = true) : v.words.length ≤ 16 ∧ (∀ k (h : k < v.words.length), v.words[k].size ≤ 200) ∧ v.text.size ≤ 200 := by
  have hsz : ∀ b : ByteArray, b.data.toList = [] → b.size ≤ 200 := fun b hb => by
    have : b.data.toList.length = b.size := by simp
    rw [hb] at this; simp at this; omega
  have hnil : ∀ (n : Nat), n = 0 → v.words.length = n → v.words.length ≤ 16 ∧ ∀ k (h : k < v.words.length), v.words[k].size ≤ 200 := fun n h0 hn => ⟨by omega, fun k hk => absurd hk (by omega)⟩
  unfold rightV at h
  split at h
  · simp only [Bool.and_eq_true, decide_eq_true_eq] at h
    exact ⟨(hnil 0 rfl h.2).1, (hnil 0 rfl h.2).2, hsz _ h.1.2⟩
  split at h
  · simp only [Bool.and_eq_true, decide_eq_true_eq] at h
    exact ⟨(hnil 0 rfl h.2).1, (hnil 0 rfl h.2).2, hsz _ h.1.2⟩
  split at h
  · simp only [Bool.and_eq_true, decide_eq_true_eq] at h
    exact ⟨(hnil 0 rfl h.2).1, (hnil 0 rfl h.2).2, hsz _ h.1.2⟩
  split at h
  · simp only [Bool.and_eq_true, decide_eq_true_eq] at h
    refine ⟨(hnil 0 rfl h.2).1, (hnil 0 rfl h.2).2, ?_⟩
    have ht := h.1.2
    unfold textV at ht
    split at ht
    · cases ht
    · split at ht
      · cases ht
      · have : v.text.data.toList.length = v.text.size := by simp
        omega
  split at h
  · simp only [Bool.and_eq_true, decide_eq_true_eq] at h
    obtain ⟨⟨_, ht⟩, hw⟩ := h
    unfold wordsRight at hw
    simp only [Bool.and_eq_true, decide_eq_true_eq] at hw
    refine ⟨hw.1.1, fun k hk => ?_, hsz _ ht⟩
    have hm : v.words[k].data.toList ∈ wl v.words := List.mem_map.2 ⟨_, List.getElem_mem hk, rfl⟩
    have := List.all_eq_true.1 hw.1.2 _ hm
    unfold wordB at this
    simp only [Bool.and_eq_true, decide_eq_true_eq] at this
    have hl : v.words[k].data.toList.length = v.words[k].size := by simp
    omega
  · cases h
end Go.Proofs.YtopghlnoklajkaaGreatDoor

namespace Go.Proofs.YtopghlnoklajkaaGreatDoor
open Go.RowKit

/-- All is as it was, but for one block. -/
def But (S : Nat) (w w' : World) : Prop := w'.os = w.os ∧ w'.tape = w.tape ∧ w'.output = w.output ∧ w.heap.size ≤ w'.heap.size ∧ ∀ k, k < w.heap.size → k ≠ S → w'.heap[k]? = w.heap[k]?
theorem But.of_below {S : Nat} {w w' : World} (h : Below w.heap.size w w') : But S w w' := ⟨h.os, h.tape, h.output, h.size, fun k hk _ => h.block k hk⟩
theorem But.setCell {S : Nat} {w w' : World} (h : But S w w') (i : Nat) (u : Value) : But S w (w'.setCell ⟨S, i, none⟩ u) :=
  ⟨h.1, h.2.1, h.2.2.1, by simpa using h.2.2.2.1, fun k hk hn => by rw [Below.heap_setCell _ _ _ _ hn]; exact h.2.2.2.2 k hk hn⟩
theorem But.below {S B : Nat} {w w' : World} (h : But S w w') (hB : B ≤ S) (hw : B ≤ w.heap.size) : Below B w w' := ⟨h.1, h.2.1, h.2.2.1, h.2.2.2.1, fun k hk => h.2.2.2.2 k (by omega) (by omega)⟩
theorem But.refl (S : Nat) (w : World) : But S w w := ⟨rfl, rfl, rfl, Nat.le_refl _, fun _ _ _ => rfl⟩
theorem But.then_below {S : Nat} {a b c : World} (h : But S a b) (k : Below b.heap.size b c) : But S a c :=
  ⟨k.os.trans h.1, k.tape.trans h.2.1, k.output.trans h.2.2.1, Nat.le_trans h.2.2.2.1 k.size, fun x hx hn => (k.block x (Nat.lt_of_lt_of_le hx h.2.2.2.1)).trans (h.2.2.2.2 x hx hn)⟩
theorem But.cell {S : Nat} {w w' : World} (h : But S w w') {p : Addr} (hp : p.block < w.heap.size) (hn : p.block ≠ S) : w'.cell? p = w.cell? p := by
  have := h.2.2.2.2 p.block hp hn
  unfold World.cell?; rw [this]
/-- All memory below a bound is as it was, but for two blocks. -/
structure Fr (B R M : Nat) (w w' : World) : Prop where
  os : w'.os = w.os
  tape : w'.tape = w.tape
  output : w'.output = w.output
  size : w.heap.size ≤ w'.heap.size
  block : ∀ k, k < B → k ≠ R → k ≠ M → w'.heap[k]? = w.heap[k]?
theorem Fr.refl (B R M : Nat) (w : World) : Fr B R M w w := ⟨rfl, rfl, rfl, Nat.le_refl _, fun _ _ _ _ => rfl⟩
theorem Fr.trans {B R M : Nat} {a b c : World} (h : Fr B R M a b) (k : Fr B R M b c) : Fr B R M a c :=
  ⟨k.os.trans h.os, k.tape.trans h.tape, k.output.trans h.output, Nat.le_trans h.size k.size, fun x hx h1 h2 => (k.block x hx h1 h2).trans (h.block x hx h1 h2)⟩
end Go.Proofs.YtopghlnoklajkaaGreatDoor
