/-
  The walks of package ini's isPart, isPlain, isSection, must.
-/
import Derived.Test.YtbpbiakdigjcnaaDoorIniLib
import Derived.Test.YtbpbiakdigjcnaaDoorValueUnit
import Derived.Test.YtbpbiakdigjcnaaDoorMarks
namespace Go.Proofs.YtbpbiakdigjcnaaDoor
open Go.ChangeShapes Go.WideShapes Go.ChangeAt Go.RowKit

theorem part_end (l : List UInt8) (h : partGo true l = true) : partB l = !l.isEmpty := by unfold partB; rw [h, Bool.and_true]
theorem part_no {l : List UInt8} (h : partGo true l = false) : partB l = false := by unfold partB; rw [h, Bool.and_false]
set_option maxHeartbeats 800000 in
set_option maxRecDepth 100000 in
theorem isPart_any (s : ByteArray) (w : World) (hT : Tab w) (hs : s.size ≤ maxLen) :
    Calls Tryd.prog 81 #[.string s] w fun e w' => e = .returned (.bool (partB s.data.toList)) ∧ w = w' := by
  unfold maxLen at hs
  obtain ⟨r, hr⟩ : ∃ r, partB s.data.toList = r := ⟨_, rfl⟩
  have HR := Lib.hid hr
  rw [hr]
  clear hr
  go_enter Tryd.func81, Tryd.ntmps81
  go_wp2
  go_loopw [7, 3, 4] (fun i _ _ wr => ∃ k : Nat, i = .int .i64 k ∧ k ≤ s.size ∧ Hid (partGo true s.data.toList = partGo (k == 0) (s.data.toList.drop k)) ∧ Hid (w = wr)) (fun i _ _ _ => s.size - (intOf i).toNat)
  case atStart => exact ⟨0, rfl, by omega, Lib.hid rfl, Lib.hid rfl⟩
  case round =>
    obtain ⟨k, rfl, hk, HP, HW⟩ := hrel
    obtain rfl := HW.out
    by_cases hlt : k < s.size
    · have hb := byte_le s k hlt
      have HD := Lib.hid (drop_byte s k hlt)
      by_cases c1 : cls s[k].toNat = 1
      · have d1 : (cls (s[k].toNat : Int) == 1) = true := beq_iff_eq.2 c1
        have d2 : (cls (s[k].toNat : Int) != 1) = false := by rw [bne, d1]; rfl
        have HN : Hid (partGo true s.data.toList = partGo (k + 1 == 0) (s.data.toList.drop (k + 1))) := Lib.hid (by rw [HP.out, HD.out, partGo, if_pos c1]; rfl)
        clear c1
        go_wp2_with (go_at_call 58; refine (class_any _ _ hT).mono ?_; rintro e w' ⟨rfl, rfl⟩)
        go_roundw
        case rel => exact ⟨k + 1, by go_num, by omega, HN, Lib.hid (by first | rfl | trivial)⟩
        case measure => simp [intOf]; omega
      have d1 : (cls (s[k].toNat : Int) == 1) = false := beq_eq_false_iff_ne.2 c1
      have d2 : (cls (s[k].toNat : Int) != 1) = true := by rw [bne, d1]; rfl
      by_cases h0 : k = 0
      · subst h0
        have HN : Hid (r = false) := Lib.hid (by rw [← HR.out]; exact part_no (by rw [HP.out, HD.out]; exact partGo_first c1))
        obtain ⟨q, hq⟩ : ∃ q, (cls (s[0].toNat : Int) != 3) = q := ⟨_, rfl⟩
        clear c1
        cases q
        all_goals
          go_wp2_with (go_at_call 58; refine (class_any _ _ hT).mono ?_; rintro e w' ⟨rfl, rfl⟩)
          go_ret
          exact ⟨by rw [HN.out]; first | done | rfl, rfl⟩
      · have z0 : ((k : Int) == 0) = false := beq_eq_false_iff_ne.2 (by omega)
        have z1 : (k == 0) = false := beq_eq_false_iff_ne.2 h0
        by_cases c3 : cls s[k].toNat = 3
        · have d3 : (cls (s[k].toNat : Int) == 3) = true := beq_iff_eq.2 c3
          have d4 : (cls (s[k].toNat : Int) != 3) = false := by rw [bne, d3]; rfl
          have HN : Hid (partGo true s.data.toList = partGo (k + 1 == 0) (s.data.toList.drop (k + 1))) := Lib.hid (by rw [HP.out, HD.out, z1, partGo_digit c1 c3]; rfl)
          clear c1 c3
          go_wp2_with (go_at_call 58; refine (class_any _ _ hT).mono ?_; rintro e w' ⟨rfl, rfl⟩)
          go_roundw
          case rel => exact ⟨k + 1, by go_num, by omega, HN, Lib.hid (by first | rfl | trivial)⟩
          case measure => simp [intOf]; omega
        · have d3 : (cls (s[k].toNat : Int) == 3) = false := beq_eq_false_iff_ne.2 c3
          have d4 : (cls (s[k].toNat : Int) != 3) = true := by rw [bne, d3]; rfl
          have HN : Hid (r = false) := Lib.hid (by rw [← HR.out]; exact part_no (by rw [HP.out, HD.out, z1]; exact partGo_no c1 c3))
          clear c1 c3
          go_wp2_with (go_at_call 58; refine (class_any _ _ hT).mono ?_; rintro e w' ⟨rfl, rfl⟩)
          go_ret
          exact ⟨by rw [HN.out]; first | done | rfl, rfl⟩
    · have HN : Hid (r = !s.toList.isEmpty) := Lib.hid (by
        rw [← HR.out, toList_eq]
        exact part_end _ (by rw [HP.out, List.drop_eq_nil_of_le (by simp; omega)]; rfl))
      go_wp2
      go_ret
      exact ⟨by rw [HN.out]; first | done | rfl, rfl⟩

theorem plain_no {l : List UInt8} {k : Nat} {c : UInt8} {r : List UInt8} (h : plainB l = plainB (l.drop k)) (hd : l.drop k = c :: r) (hc : printB c.toNat = false) : plainB l = false := by
  rw [h, hd]; unfold plainB; rw [List.all_cons, hc, Bool.false_and]
theorem plain_yes {l : List UInt8} {k : Nat} {c : UInt8} {r : List UInt8} (h : plainB l = plainB (l.drop k)) (hd : l.drop k = c :: r) (hc : printB c.toNat = true) : plainB l = plainB r := by
  rw [h, hd]; unfold plainB; rw [List.all_cons, hc, Bool.true_and]
set_option maxHeartbeats 800000 in
set_option maxRecDepth 100000 in
theorem isPlain_any (s : ByteArray) (w : World) (hs : s.size ≤ maxLen) :
    Calls Tryd.prog 45 #[.string s] w fun e w' => e = .returned (.bool (plainB s.data.toList)) ∧ w = w' := by
  unfold maxLen at hs
  obtain ⟨r, hr⟩ : ∃ r, plainB s.data.toList = r := ⟨_, rfl⟩
  have HR := Lib.hid hr
  rw [hr]
  clear hr
  go_enter Tryd.func45, Tryd.ntmps45
  go_wp2
  go_loopw [6, 3] (fun i _ wr => ∃ k : Nat, i = .int .i64 k ∧ k ≤ s.size ∧ Hid (plainB s.data.toList = plainB (s.data.toList.drop k)) ∧ Hid (w = wr)) (fun i _ _ => s.size - (intOf i).toNat)
  case atStart => exact ⟨0, rfl, by omega, Lib.hid rfl, Lib.hid rfl⟩
  case round =>
    obtain ⟨k, rfl, hk, HP, HW⟩ := hrel
    obtain rfl := HW.out
    by_cases hlt : k < s.size
    · have hb := byte_le s k hlt
      have HD := Lib.hid (drop_byte s k hlt)
      by_cases c1 : (s[k].toNat : Int) < 32
      · have HN : Hid (r = false) := Lib.hid (by rw [← HR.out]; exact plain_no HP.out HD.out (decide_eq_false (by omega)))
        go_wp2
        go_ret
        exact ⟨by rw [HN.out]; first | done | rfl, rfl⟩
      · by_cases c2 : 126 < (s[k].toNat : Int)
        · have HN : Hid (r = false) := Lib.hid (by rw [← HR.out]; exact plain_no HP.out HD.out (decide_eq_false (by omega)))
          go_wp2
          go_ret
          exact ⟨by rw [HN.out]; first | done | rfl, rfl⟩
        · have HN : Hid (plainB s.data.toList = plainB (s.data.toList.drop (k + 1))) := Lib.hid (plain_yes HP.out HD.out (decide_eq_true (by omega)))
          go_wp2
          go_roundw
          case rel => exact ⟨k + 1, by go_num, by omega, HN, Lib.hid (by first | rfl | trivial)⟩
          case measure => simp [intOf]; omega
    · have HN : Hid (r = true) := Lib.hid (by rw [← HR.out, HP.out, List.drop_eq_nil_of_le (by simp; omega)]; rfl)
      go_wp2
      go_ret
      exact ⟨by rw [HN.out]; first | done | rfl, rfl⟩

/-- What the work deep inside gives up with. -/
def faultV (e n : Int) : Value := .iface 48 (.agg #[.int .i64 e, .int .i64 n])
set_option maxRecDepth 100000 in
theorem must_ok (e0 n : Int) (w : World) : Calls Tryd.prog 34 #[.bool true, .agg #[.int .i64 e0, .int .i64 n]] w fun e w' => e = .returned (.tuple #[]) ∧ Below w.heap.size w w' := by
  go_enter Tryd.func34, Tryd.ntmps34
  go_wp2
  go_end0
  exact ⟨rfl, below_one w _⟩
set_option maxRecDepth 100000 in
theorem must_no (e0 n : Int) (w : World) : Calls Tryd.prog 34 #[.bool false, .agg #[.int .i64 e0, .int .i64 n]] w fun e w' => e = .panicked [{ v := faultV e0 n, recovered := false }] ∧ Below w.heap.size w w' := by
  go_enter Tryd.func34, Tryd.ntmps34
  go_wp2
  exact ⟨rfl, rfl, below_one w _⟩
/-- A reader in memory: the line's number, what is ahead, the names given so far (a map), the lines. -/
structure RdAt (w : World) (R : Nat) (num : Int) (ahead : List UInt8) (M : Nat) (v : Value) : Prop where
  c0 : w.cell? ⟨R, 0, none⟩ = some (.int .i64 num)
  c1 : w.cell? ⟨R, 1, none⟩ = some (.string (mkB ahead))
  c2 : w.cell? ⟨R, 2, none⟩ = some (.map (some M))
  c3 : w.cell? ⟨R, 3, none⟩ = some v
  fz : ∀ j, j < 4 → w.frozen? ⟨R, j, none⟩ = false
theorem RdAt.lt {w : World} {R : Nat} {num : Int} {a : List UInt8} {M : Nat} {v : Value} (h : RdAt w R num a M v) : R < w.heap.size := lt_of_cell h.c0
theorem RdAt.below {w w' : World} {R : Nat} {num : Int} {a : List UInt8} {M : Nat} {v : Value} (h : RdAt w R num a M v) (hb : Below w.heap.size w w') : RdAt w' R num a M v := by
  have hl := h.lt
  exact ⟨by rw [hb.cell hl]; exact h.c0, by rw [hb.cell hl]; exact h.c1, by rw [hb.cell hl]; exact h.c2, by rw [hb.cell hl]; exact h.c3, fun j hj => by rw [hb.frozen hl]; exact h.fz j hj⟩
set_option maxRecDepth 100000 in
theorem rmust_ok (R : Nat) (num : Int) (w : World) (h : w.cell? ⟨R, 0, none⟩ = some (.int .i64 num)) : Calls Tryd.prog 65 #[.pointer (some ⟨R, 0, none⟩), .bool true] w fun e w' => e = .returned (.tuple #[]) ∧ Below w.heap.size w w' := by
  go_enter Tryd.func65, Tryd.ntmps65
  go_wp2_with fail
  refine (must_ok 60 num _).mono ?_
  rintro e w' ⟨rfl, hb⟩
  go_wp2
  go_end0
  exact ⟨rfl, hb⟩
set_option maxRecDepth 100000 in
theorem rmust_no (R : Nat) (num : Int) (w : World) (h : w.cell? ⟨R, 0, none⟩ = some (.int .i64 num)) : Calls Tryd.prog 65 #[.pointer (some ⟨R, 0, none⟩), .bool false] w fun e w' => e = .panicked [{ v := faultV 60 num, recovered := false }] ∧ Below w.heap.size w w' := by
  go_enter Tryd.func65, Tryd.ntmps65
  go_wp2_with fail
  refine (must_no 60 num _).mono ?_
  rintro e w' ⟨rfl, hb⟩
  exact ⟨rfl, rfl, hb⟩

set_option maxHeartbeats 800000 in
set_option maxRecDepth 100000 in
theorem isSection_any (s : ByteArray) (w : World) (hT : Tab w) (hM : MaxI w) (hs : s.size ≤ 4294967280) :
    Calls Tryd.prog 66 #[.string s] w fun e w' => e = .returned (.bool (secB s.data.toList)) ∧ Below w.heap.size w w' := by
  obtain ⟨r, hr⟩ : ∃ r, secB s.data.toList = r := ⟨_, rfl⟩
  rw [hr]
  have HC := Lib.hid (cutAt_any 46 s w hs hM)
  have hsz : s.data.toList.length = s.size := by simp
  have HP : Hid (∀ (l : List UInt8) w1, l.length ≤ s.size → Below w.heap.size w w1 → Calls Tryd.prog 81 #[.string (mkB l)] w1 fun e w' => e = .returned (.bool (partB l)) ∧ w1 = w') := Lib.hid fun l w1 hl hb => isPart_any (mkB l) w1 (hT.below hb) (by unfold maxLen; show l.length ≤ _; omega)
  by_cases he : s = ⟨#[]⟩
  · subst he
    have HR : Hid (r = true) := Lib.hid (hr.symm.trans rfl)
    clear hr HP hsz
    go_enter Tryd.func66, Tryd.ntmps66
    go_wp2_with fail
    refine HC.out.mono ?_
    rintro e w1 ⟨rfl, hb1⟩
    have HB := Lib.hid hb1
    clear hb1 HC
    rw [show cutV 46 (⟨#[]⟩ : ByteArray).data.toList = .tuple #[.string ⟨#[]⟩, .string ⟨#[]⟩, .bool false] from rfl]
    go_wp2
    go_ret
    exact ⟨by rw [HR.out]; first | done | rfl, HB.out⟩
  · have d0 : s.toList.isEmpty = false := by
      rw [toList_eq]
      cases h : s.data.toList with
      | nil => exact absurd (by rw [← mkB_self s, h]; rfl) he
      | cons _ _ => rfl
    have HR : Hid (r = (partB (upTo 46 s.data.toList) && (!s.data.toList.contains 46 || partB (after 46 s.data.toList)))) := Lib.hid (by
      rw [← hr]; unfold secB
      rw [show s.data.toList.isEmpty = false by rw [← toList_eq]; exact d0, Bool.false_or])
    by_cases hc : s.data.toList.contains 46 = true
    · have hw := whole_is 46 s.data.toList hc
      have hl : (upTo 46 s.data.toList).length + (after 46 s.data.toList).length + 1 = s.data.toList.length := by
        conv => rhs; rw [hw]
        simp; omega
      rw [hc, Bool.not_true, Bool.false_or] at HR
      rw [show cutV 46 s.data.toList = .tuple #[.string (mkB (upTo 46 s.data.toList)), .string (mkB (after 46 s.data.toList)), .bool true] by unfold cutV; rw [if_pos hc]] at HC
      have HPA : Hid (∀ w1, Below w.heap.size w w1 → Calls Tryd.prog 81 #[.string (mkB (upTo 46 s.data.toList))] w1 fun e w' => e = .returned (.bool (partB (upTo 46 s.data.toList))) ∧ w1 = w') := Lib.hid fun w1 hb => HP.out _ w1 (by omega) hb
      have HPB : Hid (∀ w1, Below w.heap.size w w1 → Calls Tryd.prog 81 #[.string (mkB (after 46 s.data.toList))] w1 fun e w' => e = .returned (.bool (partB (after 46 s.data.toList))) ∧ w1 = w') := Lib.hid fun w1 hb => HP.out _ w1 (by omega) hb
      clear hw hl hsz hr he hc HP
      generalize partB (upTo 46 s.data.toList) = pa at *
      generalize partB (after 46 s.data.toList) = pb at *
      generalize mkB (upTo 46 s.data.toList) = sa at *
      generalize mkB (after 46 s.data.toList) = sb at *
      go_enter Tryd.func66, Tryd.ntmps66
      go_wp2_with fail
      refine HC.out.mono ?_
      rintro e w1 ⟨rfl, hb1⟩
      have HB := Lib.hid hb1
      clear hb1 HC
      go_wp2_with fail
      refine (HPA.out _ HB.out).mono ?_
      rintro e w' ⟨rfl, rfl⟩
      cases pa with
      | false =>
        go_wp2
        go_ret
        exact ⟨by rw [HR.out]; first | done | rfl, HB.out⟩
      | true =>
        go_wp2_with fail
        refine (HPB.out _ HB.out).mono ?_
        rintro e w' ⟨rfl, rfl⟩
        go_wp2
        go_ret
        exact ⟨by rw [HR.out]; first | done | rfl, HB.out⟩
    · have hc' : s.data.toList.contains 46 = false := by simpa using hc
      rw [hc', upTo_none hc', Bool.not_false, Bool.true_or, Bool.and_true] at HR
      rw [show cutV 46 s.data.toList = .tuple #[.string (mkB s.data.toList), .string ⟨#[]⟩, .bool false] by unfold cutV; rw [if_neg hc]] at HC
      have HPA : Hid (∀ w1, Below w.heap.size w w1 → Calls Tryd.prog 81 #[.string (mkB s.data.toList)] w1 fun e w' => e = .returned (.bool (partB s.data.toList)) ∧ w1 = w') := Lib.hid fun w1 hb => HP.out _ w1 (by omega) hb
      clear hsz hr he hc hc' HP
      generalize partB s.data.toList = pa at *
      generalize mkB s.data.toList = sa at *
      go_enter Tryd.func66, Tryd.ntmps66
      go_wp2_with fail
      refine HC.out.mono ?_
      rintro e w1 ⟨rfl, hb1⟩
      have HB := Lib.hid hb1
      clear hb1 HC
      go_wp2_with fail
      refine (HPA.out _ HB.out).mono ?_
      rintro e w' ⟨rfl, rfl⟩
      cases pa
      all_goals
        go_wp2
        go_ret
        exact ⟨by rw [HR.out]; first | done | rfl, HB.out⟩
end Go.Proofs.YtbpbiakdigjcnaaDoor
