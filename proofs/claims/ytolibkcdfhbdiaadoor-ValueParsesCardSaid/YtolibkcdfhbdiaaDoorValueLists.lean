/-
  The walk of the law's 'same': two lists of texts.
-/
import Derived.Test.YtolibkcdfhbdiaaDoorValuePrint
import Derived.Test.YtolibkcdfhbdiaaDoorValueSame
import Derived.Deep.RegionHeld3
namespace Go.Proofs.YtolibkcdfhbdiaaDoor
open Go.ChangeShapes Go.WideShapes Go.ChangeAt Go.RowKit

theorem list_take {xs ys : List ByteArray} {j : Nat} (h1 : j < xs.length) (h2 : j < ys.length) (hp : xs.take j = ys.take j) :
    (¬ xs[j] = ys[j] → decide (xs = ys) = false) ∧ (xs[j] = ys[j] → xs.take (j + 1) = ys.take (j + 1)) := by
  refine ⟨fun hn => decide_eq_false (fun e => hn (by subst e; rfl)), fun he => ?_⟩
  rw [List.take_succ_eq_append_getElem h1, List.take_succ_eq_append_getElem h2, hp, he]

set_option maxHeartbeats 3200000 in
set_option maxRecDepth 100000 in
theorem sameL_any (w : World) (x y : Option Addr) (c d : Nat) (xs ys : List ByteArray) (hx : Txts w x xs) (hy : Txts w y ys) (h1 : xs.length ≤ 4611686018427387904) :
    Calls Tryd.prog 38 #[.slice x xs.length c, .slice y ys.length d] w fun e w' => e = .returned (.bool (decide (xs = ys))) ∧ Below w.heap.size w w' := by
  by_cases hl : xs.length = ys.length
  case neg =>
    have e1 : ((xs.length : Int) == ys.length) = false := beq_eq_false_iff_ne.2 (by omega)
    have e2 : ((xs.length : Int) != ys.length) = true := ne_true (by omega)
    have HV : Hid (decide (xs = ys) = false) := Lib.hid (decide_eq_false (fun e => hl (by rw [e])))
    clear hl
    go_enter Tryd.func38, Tryd.ntmps38
    go_wp2
    go_ret
    exact ⟨ret_bool HV.out, Below.refl _ _⟩
  have HX := Lib.hid hx
  have HY := Lib.hid hy
  have HL := Lib.hid hl
  obtain ⟨L, hL⟩ : ∃ L, ys.length = L := ⟨_, rfl⟩
  have HLY := Lib.hid hL
  simp only [hl, hL]
  have hLl : L ≤ 4611686018427387904 := by omega
  clear hl hL hx hy h1
  go_enter Tryd.func38, Tryd.ntmps38
  go_wp2
  go_loopw [5] (fun i wr => ∃ j : Nat, i = .int .i64 j ∧ j ≤ L ∧ Hid (Below w.heap.size w wr) ∧ Hid (xs.take j = ys.take j)) (fun i _ => L - (intOf i).toNat)
  case atStart => exact ⟨0, rfl, by omega, Lib.hid (Below.refl _ _), Lib.hid rfl⟩
  case round =>
    obtain ⟨j, rfl, hj, HW, HT⟩ := hrel
    by_cases hlt : j < L
    · have jx : j < xs.length := by rw [HL.out, HLY.out]; exact hlt
      have jy : j < ys.length := by rw [HLY.out]; exact hlt
      obtain ⟨bx, ox, hxe, hbx, hcx⟩ := (HX.out.below HW.out) j jx
      obtain ⟨by', oy, hye, hby, hcy⟩ := (HY.out.below HW.out) j jy
      obtain ⟨s1, s2⟩ := list_take jx jy HT.out
      generalize xs[j] = p at hcx s1 s2
      generalize ys[j] = q at hcy s1 s2
      subst hxe hye
      have q1 : (0 : Int) ≤ j := by omega
      have q2 : (j : Int) < L := by omega
      have HWD : Hid (Below w.heap.size w wr.drew) := Lib.hid (HW.out.trans ((below_drewN wr 1).mono HW.out.size))
      clear jx jy
      by_cases hpq : p = q
      · have HN := Lib.hid (s2 hpq)
        subst hpq
        clear s1 s2
        go_wp2
        try go_region_held3 (fun w' => w'.cell? ⟨bx, ox + j, none⟩ = some (.string p) ∧ w'.cell? ⟨by', oy + j, none⟩ = some (.string p)) (first | exact ⟨hcx, hcy⟩) (fail)
        try go_wp2
        go_roundw
        case rel => exact ⟨j + 1, by go_num, by omega, by first | exact HWD | exact HW, HN⟩
        case measure => simp [intOf]; omega
      · have HN := Lib.hid (s1 hpq)
        have e1 : (p.toList == q.toList) = false := beq_eq_false_iff_ne.2 (fun h => hpq (toList_inj h))
        clear s1 s2 hpq
        go_wp2
        try go_region_held3 (fun w' => w'.cell? ⟨bx, ox + j, none⟩ = some (.string p) ∧ w'.cell? ⟨by', oy + j, none⟩ = some (.string q)) (first | exact ⟨hcx, hcy⟩) (fail)
        try go_wp2
        go_ret
        exact ⟨ret_bool HN.out, by first | exact HWD.out | exact HW.out⟩
    · have q2 : decide ((j : Int) < L) = false := decide_eq_false (by omega)
      have HE : Hid (decide (xs = ys) = true) := Lib.hid (by
        have := HT.out
        rw [List.take_of_length_le (by rw [HL.out, HLY.out]; omega), List.take_of_length_le (by rw [HLY.out]; omega)] at this
        exact decide_eq_true this)
      go_wp2
      go_ret
      exact ⟨ret_bool HE.out, HW.out⟩
end Go.Proofs.YtolibkcdfhbdiaaDoor
