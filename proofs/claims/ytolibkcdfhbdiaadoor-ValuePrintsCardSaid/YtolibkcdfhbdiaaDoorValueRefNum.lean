/-
  The walks of the document's own 'number', 'whole', 'text'.
-/
import Derived.Test.YtolibkcdfhbdiaaDoorValueList
import Derived.Test.YtolibkcdfhbdiaaDoorValueInt
namespace Go.Proofs.YtolibkcdfhbdiaaDoor
open Go.ChangeShapes Go.WideShapes Go.ChangeAt Go.RowKit

theorem all_drop {l : List UInt8} {c : UInt8} {r : List UInt8} {k : Nat} (h : l.drop k = c :: r) (hc : isD c = false) : l.all isD = false := by
  cases hq : l.all isD with
  | false => rfl
  | true =>
    have hm : c ∈ l := List.mem_of_mem_drop (i := k) (by rw [h]; exact List.mem_cons_self)
    have := List.all_eq_true.1 hq c hm
    rw [hc] at this; cases this
/-- What the document's 'number' answers. -/
def refNum (l : List UInt8) : Int × Bool := if l.all isD then ((capN (dec l) : Nat), numOk l) else (0, false)
theorem cap_step (n m d : Nat) (h : m = capN n) (hd : d ≤ 9) : capN (n * 10 + d) = if m ≤ 461168601842738790 then min (10 * m + d) 4611686018427387905 else 4611686018427387905 := by
  subst h
  unfold capN bigN
  split <;> omega

set_option maxHeartbeats 400000 in
set_option maxRecDepth 100000 in
theorem refNumber_any (s : ByteArray) (w : World) (hs : s.size ≤ maxLen) :
    Calls Tryd.prog 65 #[.string s] w fun e w' => e = .returned (.tuple #[.int .i64 (refNum s.data.toList).1, .bool (refNum s.data.toList).2]) ∧ w = w' := by
  unfold maxLen at hs
  go_enter Tryd.func65, Tryd.ntmps65
  go_wp2
  go_loop [4, 5] (fun n i => ∃ k m : Nat, i = .int .i64 k ∧ k ≤ s.size ∧ n = .int .i64 m ∧ m ≤ 4611686018427387905 ∧ Hid ((s.data.toList.take k).all isD = true ∧ m = capN (dec (s.data.toList.take k)))) (fun _ i => s.size - (intOf i).toNat)
  case atStart => exact ⟨0, 0, rfl, by omega, rfl, by omega, Lib.hid ⟨rfl, rfl⟩⟩
  case round =>
    obtain ⟨k, m, rfl, hk, rfl, hm, HR⟩ := hrel
    by_cases hlt : k < s.size
    · have hb := byte_le s k hlt
      have HD := Lib.hid (drop_byte s k hlt)
      by_cases hd : isD s[k] = true
      · obtain ⟨hd1, hd2⟩ : 48 ≤ s[k].toNat ∧ s[k].toNat ≤ 57 := by simpa [isD] using hd
        obtain ⟨d, hde⟩ : ∃ d : Nat, s[k].toNat = d + 48 := ⟨s[k].toNat - 48, by omega⟩
        have hdle : d ≤ 9 := by omega
        have HX : Hid ((s.data.toList.take (k + 1)).all isD = true ∧ dec (s.data.toList.take (k + 1)) = dec (s.data.toList.take k) * 10 + d) := Lib.hid (by
          have e : s.data.toList.take (k + 1) = s.data.toList.take k ++ [s[k]] := by
            rw [List.take_succ_eq_append_getElem (by simpa using hlt)]; rfl
          refine ⟨by rw [e, List.all_append, HR.out.1]; simp [hd], ?_⟩
          unfold dec
          rw [e, decAcc_append, decAcc_cons, decAcc_nil, decS_eq, hde]; simp)
        have HS := Lib.hid (fun n h => cap_step n m d h hdle)
        have d1 : decide ((s[k].toNat : Int) < 48) = false := decide_eq_false (by omega)
        have d2 : decide (57 < (s[k].toNat : Int)) = false := decide_eq_false (by omega)
        have e1 : (s[k].toNat : Int) - 48 = (d : Int) := by omega
        have e2 : IntKind.u8.wrap ((s[k].toNat : Int) - 48) = (d : Int) := by rw [e1]; exact IntWalk.u8_in _ (by omega)
        have hb2 : (48 : Int) ≤ s[k].toNat := by omega
        clear hde
        by_cases h7 : m ≤ 461168601842738790
        · obtain ⟨q, hq⟩ : ∃ q : Nat, min (10 * m + d) 4611686018427387905 = q := ⟨_, rfl⟩
          have hqle : q ≤ 4611686018427387905 := by omega
          have HM : Hid (capN (dec (s.data.toList.take (k + 1))) = q) := Lib.hid (by rw [HX.out.2, HS.out _ HR.out.2, if_pos h7, hq])
          have hmin : min (10 * (m : Int) + d) 4611686018427387905 = (q : Int) := by omega
          have d3 : decide ((m : Int) ≤ 461168601842738790) = true := decide_eq_true (by omega)
          clear hd hd1 hd2 hq
          go_wp2
          go_round
          case rel => exact ⟨k + 1, q, by go_num, by omega, rfl, hqle, Lib.hid ⟨HX.out.1, HM.out.symm⟩⟩
          case measure => simp [intOf]; omega
        · have d3 : decide ((m : Int) ≤ 461168601842738790) = false := decide_eq_false (by omega)
          have HM : Hid (capN (dec (s.data.toList.take (k + 1))) = 4611686018427387905) := Lib.hid (by rw [HX.out.2, HS.out _ HR.out.2, if_neg h7])
          clear hd hd1 hd2 h7
          go_wp2
          go_round
          case rel => exact ⟨k + 1, 4611686018427387905, by go_num, by omega, rfl, by omega, Lib.hid ⟨HX.out.1, HM.out.symm⟩⟩
          case measure => simp [intOf]; omega
      · have HX : Hid (refNum s.data.toList = (0, false)) := Lib.hid (by unfold refNum; rw [all_drop HD.out (by simpa using hd)]; rfl)
        rcases (by simp [isD] at hd; omega : s[k].toNat < 48 ∨ (48 ≤ s[k].toNat ∧ 57 < s[k].toNat)) with h | ⟨h, h'⟩
        · have d1 : decide ((s[k].toNat : Int) < 48) = true := decide_eq_true (by omega)
          clear hd
          go_wp2
          go_ret2
          exact ⟨ret_val (by rw [HX.out]; rfl), rfl⟩
        · have d1 : decide ((s[k].toNat : Int) < 48) = false := decide_eq_false (by omega)
          have d2 : decide (57 < (s[k].toNat : Int)) = true := decide_eq_true (by omega)
          clear hd
          go_wp2
          go_ret2
          exact ⟨ret_val (by rw [HX.out]; rfl), rfl⟩
    · have hks : k = s.size := by omega
      have hall : s.data.toList.all isD = true ∧ m = capN (dec s.data.toList) := by have := HR.out; rwa [List.take_of_length_le (by simp; omega)] at this
      have hX : refNum s.data.toList = ((m : Int), numOk s.data.toList) := by unfold refNum; rw [hall.1, hall.2]; rfl
      have HX := Lib.hid hX
      by_cases h0 : s.size = 0
      · have hlen : s.data.toList.length = s.size := by simp
        have hs0 : s.data.toList = [] := List.eq_nil_of_length_eq_zero (by omega)
        have HN : Hid (numOk s.data.toList = false) := Lib.hid (by rw [hs0]; rfl)
        have e0 : (s.toList == []) = true := by rw [toList_eq, hs0]; rfl
        have e1 : s.toList.isEmpty = true := by rw [toList_eq, hs0]; rfl
        clear hks hall hX hs0 hlen
        go_wp2
        go_ret2
        exact ⟨ret_val (by rw [HX.out, HN.out]; rfl), rfl⟩
      · have hpos : 0 < s.size := by omega
        have hf := first_of hpos
        have hne : ¬ s.data.toList = [] := by rw [hf]; simp
        have e0 := ne_text hne
        have e1 : s.toList.isEmpty = false := by cases hq : s.toList with
          | nil => rw [hq] at e0; cases e0
          | cons a b => rfl
        by_cases h48 : s[0].toNat = 48
        · have hc : s[0] = 48 := UInt8.toNat_inj.1 h48
          have g1 : ((s[0].toNat : Int) != 48) = false := ne_false (by omega)
          by_cases hl : s.size = 1
          · have g2 : ((s.size : Int) == 1) = true := beq_iff_eq.2 (by omega)
            have HN : Hid (numOk s.data.toList = true) := Lib.hid (by
              have hall1 := hall.1
              rw [hf] at hall1 ⊢
              rw [numOk_iff, hall1, List.drop_eq_nil_of_le (by simp; omega)]; simp)
            clear hks hall hX hf hne hc h48 hl
            go_wp2
            go_ret2
            exact ⟨ret_val (by rw [HX.out, HN.out]; rfl), rfl⟩
          · have g2 : ((s.size : Int) == 1) = false := beq_eq_false_iff_ne.2 (by omega)
            have HN : Hid (numOk s.data.toList = false) := Lib.hid (by
              rw [hf, numOk_iff, hc]
              have : (s.data.toList.drop 1).isEmpty = false := by
                cases hq : s.data.toList.drop 1 with
                | nil => have := congrArg List.length hq; simp at this; omega
                | cons a b => rfl
              rw [this]; simp)
            clear hks hall hX hf hne hc h48 hl
            go_wp2
            go_ret2
            exact ⟨ret_val (by rw [HX.out, HN.out]; rfl), rfl⟩
        · have g1 : ((s[0].toNat : Int) != 48) = true := ne_true (by omega)
          have HN : Hid (numOk s.data.toList = true) := Lib.hid (by
            have hall1 := hall.1
            rw [hf] at hall1 ⊢
            rw [numOk_iff, hall1]
            have : (s[0] != 48) = true := by simpa using fun e => h48 (by rw [e]; rfl)
            rw [this]; rfl)
          clear hks hall hX hf hne h48
          go_wp2
          go_ret2
          exact ⟨ret_val (by rw [HX.out, HN.out]; rfl), rfl⟩
end Go.Proofs.YtolibkcdfhbdiaaDoor
