/-
  The walks of package ini's meant and takeSection.
-/
import Derived.Test.YtbpbiakdigjcnaaDoorIniSmall
namespace Go.Proofs.YtbpbiakdigjcnaaDoor
open Go.ChangeShapes Go.WideShapes Go.ChangeAt Go.RowKit

/-- It gives up at a line. -/
def bad (num : Int) : Ending := .panicked [{ v := faultV 60 num, recovered := false }]
def meantE (num : Int) : Option (List UInt8) → Ending
  | some u => .returned (.string (mkB u))
  | none => bad num
theorem meant_cap {u : List UInt8} (h : u.length ≤ 200) : (if u.length ≤ 200 then some u else none) = some u := if_pos h
theorem len_mkB (u : List UInt8) : (mkB u).size = u.length := by show (mkB u).data.toList.length = _; rfl

set_option maxHeartbeats 1600000 in
set_option maxRecDepth 100000 in
theorem meant_any (R : Nat) (num : Int) (s : ByteArray) (w : World) (h : w.cell? ⟨R, 0, none⟩ = some (.int .i64 num)) (hs : s.size ≤ 4294967280) :
    Calls Tryd.prog 69 #[.pointer (some ⟨R, 0, none⟩), .string s] w fun e w' => e = meantE num (meantB s.data.toList) ∧ Below w.heap.size w w' := by
  have HL : Hid (∀ w1, Below w.heap.size w w1 → w1.cell? ⟨R, 0, none⟩ = some (.int .i64 num)) := Lib.hid fun w1 hb => by rw [hb.cell (p := ⟨R, 0, none⟩) (lt_of_cell h)]; exact h
  have HOK : Hid (∀ w1, Below w.heap.size w w1 → Calls Tryd.prog 65 #[.pointer (some ⟨R, 0, none⟩), .bool true] w1 fun e w' => e = .returned (.tuple #[]) ∧ Below w1.heap.size w1 w') := Lib.hid fun w1 hb => rmust_ok R num w1 (HL.out w1 hb)
  have HNO : Hid (∀ w1, Below w.heap.size w w1 → Calls Tryd.prog 65 #[.pointer (some ⟨R, 0, none⟩), .bool false] w1 fun e w' => e = bad num ∧ Below w1.heap.size w1 w') := Lib.hid fun w1 hb => rmust_no R num w1 (HL.out w1 hb)
  have HQ := Lib.hid (quoted_any s w)
  have H0 := Lib.hid (Below.refl w.heap.size w)
  obtain ⟨E, hE⟩ : ∃ E, meantE num (meantB s.data.toList) = E := ⟨_, rfl⟩
  rw [hE]
  clear h
  by_cases hq : s.data.toList.head? = some 34
  · rw [decide_eq_true hq] at HQ
    have HU := Lib.hid (unquote_any s w (by omega))
    have hM : meantB s.data.toList = (unqL s.data.toList).bind fun u => if u.length ≤ 200 then some u else none := by unfold meantB; simp only; rw [if_pos hq]
    rw [hM] at hE
    cases hu : unqL s.data.toList with
    | none =>
      rw [hu] at hE HU
      have HE : Hid (E = bad num) := Lib.hid hE.symm
      unfold unqEnd at HU
      clear hE hq hM hu
      go_enter Tryd.func69, Tryd.ntmps69
      go_wp2_with fail
      refine HQ.out.mono ?_
      rintro e w' ⟨rfl, rfl⟩
      go_wp2_with fail
      refine HU.out.mono ?_
      rintro e w1 ⟨rfl, hb1⟩
      have HB := Lib.hid hb1
      clear hb1
      go_wp2_with fail
      refine (HNO.out _ HB.out).mono ?_
      rintro e w2 ⟨rfl, hb2⟩
      exact ⟨rfl, HE.out.symm, HB.out.trans (hb2.mono HB.out.size)⟩
    | some u =>
      rw [hu] at hE HU
      have hE2 : meantE num (if u.length ≤ 200 then some u else none) = E := hE
      unfold unqEnd str at HU
      simp only at HU
      have hlen := len_mkB u
      have hsb : (⟨u.toArray⟩ : ByteArray) = mkB u := rfl
      rw [hsb] at HU
      have HMU : Hid (E = if u.length ≤ 200 then .returned (.string (mkB u)) else bad num) := Lib.hid (by
        rw [← hE2]; split <;> rfl)
      clear hE hE2 hq hM hu hsb
      generalize mkB u = ub at *
      generalize u.length = n at *
      by_cases hn : n ≤ 200
      · have q1 : (ub.size : Int) ≤ 200 := by omega
        rw [if_pos hn] at HMU
        clear hn hlen
        go_enter Tryd.func69, Tryd.ntmps69
        go_wp2_with fail
        refine HQ.out.mono ?_
        rintro e w' ⟨rfl, rfl⟩
        go_wp2_with fail
        refine HU.out.mono ?_
        rintro e w1 ⟨rfl, hb1⟩
        have HB := Lib.hid hb1
        clear hb1
        go_wp2_with fail
        refine (HOK.out _ HB.out).mono ?_
        rintro e w2 ⟨rfl, hb2⟩
        have HB2 := Lib.hid (HB.out.trans (hb2.mono HB.out.size))
        clear hb2
        go_wp2_with fail
        refine (HOK.out _ HB2.out).mono ?_
        rintro e w3 ⟨rfl, hb3⟩
        have HB3 := Lib.hid (HB2.out.trans (hb3.mono HB2.out.size))
        clear hb3
        go_wp2
        go_ret
        exact ⟨by rw [HMU.out]; first | done | rfl, HB3.out⟩
      · have q1 : ¬ (ub.size : Int) ≤ 200 := by omega
        rw [if_neg hn] at HMU
        clear hn hlen
        go_enter Tryd.func69, Tryd.ntmps69
        go_wp2_with fail
        refine HQ.out.mono ?_
        rintro e w' ⟨rfl, rfl⟩
        go_wp2_with fail
        refine HU.out.mono ?_
        rintro e w1 ⟨rfl, hb1⟩
        have HB := Lib.hid hb1
        clear hb1
        go_wp2_with fail
        refine (HOK.out _ HB.out).mono ?_
        rintro e w2 ⟨rfl, hb2⟩
        have HB2 := Lib.hid (HB.out.trans (hb2.mono HB.out.size))
        clear hb2
        go_wp2_with fail
        rw [show decide ((ub.size : Int) ≤ 200) = false from decide_eq_false (by omega)]
        refine (HNO.out _ HB2.out).mono ?_
        rintro e w3 ⟨rfl, hb3⟩
        exact ⟨rfl, HMU.out.symm, HB2.out.trans (hb3.mono HB2.out.size)⟩
  · rw [decide_eq_false hq] at HQ
    have HP := Lib.hid (isPlain_any s w (by unfold maxLen; omega))
    have hM : meantB s.data.toList = (if plainB s.data.toList then some s.data.toList else none).bind fun u => if u.length ≤ 200 then some u else none := by unfold meantB; simp only; rw [if_neg hq]
    rw [hM] at hE
    cases hp : plainB s.data.toList with
    | false =>
      rw [hp] at hE HP
      have HE : Hid (E = bad num) := Lib.hid hE.symm
      clear hE hq hM hp
      go_enter Tryd.func69, Tryd.ntmps69
      go_wp2_with fail
      refine HQ.out.mono ?_
      rintro e w' ⟨rfl, rfl⟩
      go_wp2_with fail
      refine HP.out.mono ?_
      rintro e w' ⟨rfl, rfl⟩
      go_wp2_with fail
      refine (HNO.out _ H0.out).mono ?_
      rintro e w2 ⟨rfl, hb2⟩
      exact ⟨rfl, HE.out.symm, hb2⟩
    | true =>
      rw [hp] at hE HP
      have hE2 : meantE num (if s.data.toList.length ≤ 200 then some s.data.toList else none) = E := hE
      have hlen : s.data.toList.length = s.size := by simp
      have HMU : Hid (E = if s.size ≤ 200 then .returned (.string s) else bad num) := Lib.hid (by
        rw [← hE2, hlen]; split
        · show Ending.returned (.string (mkB s.data.toList)) = _; rw [mkB_self]
        · rfl)
      clear hE hE2 hq hM hp hlen
      by_cases hn : s.size ≤ 200
      · have q1 : (s.size : Int) ≤ 200 := by omega
        rw [if_pos hn] at HMU
        clear hn
        go_enter Tryd.func69, Tryd.ntmps69
        go_wp2_with fail
        refine HQ.out.mono ?_
        rintro e w' ⟨rfl, rfl⟩
        go_wp2_with fail
        refine HP.out.mono ?_
        rintro e w' ⟨rfl, rfl⟩
        go_wp2_with fail
        refine (HOK.out _ H0.out).mono ?_
        rintro e w2 ⟨rfl, hb2⟩
        have HB2 := Lib.hid hb2
        clear hb2
        go_wp2_with fail
        refine (HOK.out _ HB2.out).mono ?_
        rintro e w3 ⟨rfl, hb3⟩
        have HB3 := Lib.hid (HB2.out.trans (hb3.mono HB2.out.size))
        clear hb3
        go_wp2
        go_ret
        exact ⟨by rw [HMU.out]; first | done | rfl, HB3.out⟩
      · have q1 : ¬ (s.size : Int) ≤ 200 := by omega
        rw [if_neg hn] at HMU
        clear hn
        go_enter Tryd.func69, Tryd.ntmps69
        go_wp2_with fail
        refine HQ.out.mono ?_
        rintro e w' ⟨rfl, rfl⟩
        go_wp2_with fail
        refine HP.out.mono ?_
        rintro e w' ⟨rfl, rfl⟩
        go_wp2_with fail
        refine (HOK.out _ H0.out).mono ?_
        rintro e w2 ⟨rfl, hb2⟩
        have HB2 := Lib.hid hb2
        clear hb2
        go_wp2_with fail
        rw [show decide ((s.size : Int) ≤ 200) = false from decide_eq_false (by omega)]
        refine (HNO.out _ HB2.out).mono ?_
        rintro e w3 ⟨rfl, hb3⟩
        exact ⟨rfl, HMU.out.symm, HB2.out.trans (hb3.mono HB2.out.size)⟩
end Go.Proofs.YtbpbiakdigjcnaaDoor
