/-
  The walks of 'glyph.escaped' and 'glyph.next', and of the document's own 'digit' and 'next'.
-/
import Derived.Test.YtbpbiakdigjcnaaDoorGlyphUnquote
namespace Go.Proofs.YtbpbiakdigjcnaaDoor
open Go.ChangeShapes Go.WideShapes Go.ChangeAt Go.RowKit

theorem quietL {P : Program} {f : FuncId} {args : Array Value} {w : World} {n : Nat} {v : Value}
    (h : Calls P f args (w.drewN n) fun e w' => e = .returned v ∧ w.drewN n = w') : Calls P f args (w.drewN n) fun e w'' => e = .returned v ∧ ∃ m, w'' = w.drewN m :=
  h.mono fun _ _ ⟨a, b⟩ => ⟨a, n, b.symm⟩
theorem below_draws (w : World) (n : Nat) : Below w.heap.size w (w.drewN n) := ⟨rfl, rfl, rfl, Nat.le_refl _, fun _ _ => rfl⟩

set_option maxHeartbeats 800000 in
theorem escaped_any (t : ByteArray) (w : World) (ht : t.size ≤ maxLen) :
    Calls Tryd.prog 99 #[.string t] w fun e w' => e = pair (escB t.data.toList) ∧ Below w.heap.size w w' := by
  unfold maxLen at ht
  have hl : t.data.toList.length = t.size := by simp
  by_cases h2 : 2 ≤ t.size
  · have hb1 := bt_get t 1 (by omega)
    by_cases e1 : (t[1].toNat : Int) = 34
    · have HE : Hid (escB t.data.toList = (t[1], 2)) := Lib.hid (by rw [escB, hb1, if_pos ⟨by omega, Or.inl e1⟩])
      have d1 : ((t[1].toNat : Int) == 34) = true := beq_iff_eq.2 e1
      clear e1 hb1 hl
      go_enter Tryd.func99, Tryd.ntmps99
      go_wp2
      go_ret2
      exact ⟨by rw [HE.out]; rfl, Below.refl _ _⟩
    have d1 : ((t[1].toNat : Int) == 34) = false := beq_eq_false_iff_ne.2 e1
    by_cases e2 : (t[1].toNat : Int) = 92
    · have HE : Hid (escB t.data.toList = (t[1], 2)) := Lib.hid (by rw [escB, hb1, if_pos ⟨by omega, Or.inr e2⟩])
      have d2 : ((t[1].toNat : Int) == 92) = true := beq_iff_eq.2 e2
      clear e1 e2 hb1 hl
      go_enter Tryd.func99, Tryd.ntmps99
      go_wp2
      go_ret2
      exact ⟨by rw [HE.out]; rfl, Below.refl _ _⟩
    have d2 : ((t[1].toNat : Int) == 92) = false := beq_eq_false_iff_ne.2 e2
    by_cases h4 : 4 ≤ t.size
    · by_cases e3 : (t[1].toNat : Int) = 120
      · have i2 : 2 < t.size := by omega
        have i3 : 3 < t.size := by omega
        have HE : Hid (escB t.data.toList = numB t[2] t[3]) := Lib.hid (by
          rw [escB, hb1, if_neg (by omega), if_pos ⟨by omega, e3⟩, bt_get t 2 (by omega), bt_get t 3 (by omega)])
        have d3 : ((t[1].toNat : Int) == 120) = true := beq_iff_eq.2 e3
        have q2 : (2 : Int) < t.size := by omega
        have q3 : (3 : Int) < t.size := by omega
        clear e1 e2 e3 hb1 hl
        go_enter Tryd.func99, Tryd.ntmps99
        go_wp2
        go_quiet ((go_at_call 100; exact quietL (numbered_any _ _ _)))
        go_wp2
        go_ret2
        exact ⟨by rw [HE.out]; rfl, below_draws _ _⟩
      · have HE : Hid (escB t.data.toList = (0, 0)) := Lib.hid (by rw [escB, hb1, if_neg (by omega), if_neg (by omega)])
        have d3 : ((t[1].toNat : Int) == 120) = false := beq_eq_false_iff_ne.2 e3
        clear e1 e2 e3 hb1 hl
        go_enter Tryd.func99, Tryd.ntmps99
        go_wp2
        go_ret2
        exact ⟨by rw [HE.out]; rfl, Below.refl _ _⟩
    · have HE : Hid (escB t.data.toList = (0, 0)) := Lib.hid (by rw [escB, hb1, if_neg (by omega), if_neg (by omega)])
      clear e1 e2 hb1 hl
      go_enter Tryd.func99, Tryd.ntmps99
      go_wp2
      go_ret2
      exact ⟨by rw [HE.out]; rfl, Below.refl _ _⟩
  · have HE : Hid (escB t.data.toList = (0, 0)) := Lib.hid (by rw [escB, if_neg (by omega), if_neg (by omega)])
    clear hl
    go_enter Tryd.func99, Tryd.ntmps99
    go_wp2
    go_ret2
    exact ⟨by rw [HE.out]; rfl, Below.refl _ _⟩

set_option maxHeartbeats 800000 in
theorem next_any (t : ByteArray) (w : World) (ht : t.size ≤ maxLen) (h0 : 0 < t.size) :
    Calls Tryd.prog 94 #[.string t] w fun e w' => e = pair (nextB t.data.toList) ∧ Below w.heap.size w w' := by
  have hb0 := bt_get t 0 h0
  have ht' : t.size ≤ 9223372036854775807 := by unfold maxLen at ht; omega
  have HT := Lib.hid ht
  clear ht
  by_cases e1 : (t[0].toNat : Int) = 92
  · have HE : Hid (nextB t.data.toList = escB t.data.toList) := Lib.hid (by rw [nextB, hb0, if_pos e1])
    have d1 : ((t[0].toNat : Int) == 92) = true := beq_iff_eq.2 e1
    clear e1 hb0
    go_enter Tryd.func94, Tryd.ntmps94
    go_wp2_with (go_at_call 99; refine (escaped_any t _ HT.out).mono ?_; rintro e w' ⟨rfl, hb⟩; simp only [pair])
    go_ret2
    exact ⟨by rw [HE.out]; rfl, hb⟩
  have d1 : ((t[0].toNat : Int) == 92) = false := beq_eq_false_iff_ne.2 e1
  by_cases e2 : (t[0].toNat : Int) = 34
  · have HE : Hid (nextB t.data.toList = (0, 0)) := Lib.hid (by rw [nextB, hb0, if_neg e1, if_pos (Or.inl e2)])
    have d2 : ((t[0].toNat : Int) == 34) = true := beq_iff_eq.2 e2
    clear e1 e2 hb0
    go_enter Tryd.func94, Tryd.ntmps94
    go_wp2
    go_ret2
    exact ⟨by rw [HE.out]; rfl, Below.refl _ _⟩
  have d2 : ((t[0].toNat : Int) == 34) = false := beq_eq_false_iff_ne.2 e2
  rcases Bool.eq_false_or_eq_true (printB t[0].toNat) with hp | hp
  · have HE : Hid (nextB t.data.toList = (t[0], 1)) := Lib.hid (by rw [nextB, hb0, if_neg e1, if_neg (by rw [hp]; simp [e2])])
    clear e1 e2 hb0
    go_enter Tryd.func94, Tryd.ntmps94
    go_wp2_with (go_at_call 60; refine (printed_any _ _).mono ?_; rintro e w' ⟨rfl, rfl⟩)
    go_ret2
    exact ⟨by rw [HE.out]; rfl, Below.refl _ _⟩
  · have HE : Hid (nextB t.data.toList = (0, 0)) := Lib.hid (by rw [nextB, hb0, if_neg e1, if_pos (Or.inr hp)])
    clear e1 e2 hb0
    go_enter Tryd.func94, Tryd.ntmps94
    go_wp2_with (go_at_call 60; refine (printed_any _ _).mono ?_; rintro e w' ⟨rfl, rfl⟩)
    go_ret2
    exact ⟨by rw [HE.out]; rfl, Below.refl _ _⟩

theorem hexVal_at : ∀ (k : Fin 16) (n : Fin 256), (∀ j : Fin 16, j.val < k.val → hexOf j.val ≠ UInt8.ofNat n.val) → hexOf k.val = UInt8.ofNat n.val → hexVal (UInt8.ofNat n.val) = k.val := by decide +kernel
theorem hexVal_none : ∀ (n : Fin 256), (∀ j : Fin 16, hexOf j.val ≠ UInt8.ofNat n.val) → hexVal (UInt8.ofNat n.val) = -1 := by decide +kernel
theorem hexVal_found {c : UInt8} {k : Nat} (hk : k < 16) (hn : ∀ j, j < k → hexOf j ≠ c) (h : hexOf k = c) : hexVal c = k := by
  have := hexVal_at ⟨k, hk⟩ ⟨c.toNat, c.toNat_lt⟩
  simp only [UInt8.ofNat_toNat] at this
  exact this (fun j hj => hn _ hj) h
theorem hexVal_miss {c : UInt8} (hn : ∀ j, j < 16 → hexOf j ≠ c) : hexVal c = -1 := by
  have := hexVal_none ⟨c.toNat, c.toNat_lt⟩
  simp only [UInt8.ofNat_toNat] at this
  exact this (fun j => hn _ j.isLt)
theorem hex_nat (k : Nat) (hk : k < 16) (h) : (ByteArray.mk #[48, 49, 50, 51, 52, 53, 54, 55, 56, 57, 97, 98, 99, 100, 101, 102])[k]'h = hexOf k := hex_at ⟨k, hk⟩
theorem u8_eq {a b : UInt8} : ((a.toNat : Int) == (b.toNat : Int)) = decide (a = b) := by
  rw [Bool.eq_iff_iff]; simp; constructor
  · intro h; exact UInt8.toNat_inj.1 (by omega)
  · intro h; rw [h]
theorem ret_i64 {a b : Int} (h : a = b) : Ending.returned (.int .i64 a) = .returned (.int .i64 b) := by rw [h]

set_option maxHeartbeats 800000 in
theorem digit_any (c : UInt8) (w : World) :
    Calls Tryd.prog 88 #[.int .u8 (c.toNat : Int)] w fun e w' => e = .returned (.int .i64 (hexVal c)) ∧ w = w' := by
  go_enter Tryd.func88, Tryd.ntmps88
  go_wp2
  go_loop [3] (fun i => ∃ k : Nat, k ≤ 16 ∧ i = .int .i64 k ∧ Hid (∀ j, j < k → hexOf j ≠ c)) (fun i => 16 - (intOf i).toNat)
  case atStart => exact ⟨0, by omega, rfl, Lib.hid (fun j hj => absurd hj (by omega))⟩
  case round =>
    obtain ⟨k, hk, rfl, HN⟩ := hrel
    by_cases hlt : k < 16
    · have hx := hex_nat k hlt hlt
      have he := u8_eq (a := hexOf k) (b := c)
      by_cases hc : hexOf k = c
      · have HV := Lib.hid (hexVal_found hlt HN.out hc)
        have he' : (((hexOf k).toNat : Int) == (c.toNat : Int)) = true := by rw [he]; simpa using hc
        clear he hc
        go_wp2
        go_ret
        exact ⟨ret_i64 HV.out.symm, rfl⟩
      · have he' : (((hexOf k).toNat : Int) == (c.toNat : Int)) = false := by rw [he]; simpa using hc
        have HV : Hid (∀ j, j < k + 1 → hexOf j ≠ c) := Lib.hid (fun j hj => by
          by_cases e : j = k
          · rw [e]; exact hc
          · exact HN.out j (by omega))
        clear he hc
        go_wp2
        go_round
        case rel => exact ⟨k + 1, by omega, by go_num, HV⟩
        case measure => simp [intOf]; omega
    · have HV := Lib.hid (hexVal_miss (c := c) (fun j hj => HN.out j (by omega)))
      go_wp2
      go_ret
      exact ⟨ret_i64 HV.out.symm, rfl⟩
end Go.Proofs.YtbpbiakdigjcnaaDoor
