/-
  The walks of the document's own reading of files: blank, trimmed, two, parts, bare, meant.
-/
import Derived.Test.YtbpbiakdigjcnaaDoorIniDoc
import Derived.Test.YtbpbiakdigjcnaaDoorIniState
namespace Go.Proofs.YtbpbiakdigjcnaaDoor
open Go.ChangeShapes Go.WideShapes Go.ChangeAt Go.RowKit

theorem blank_any (c : UInt8) (w : World) :
    Calls Tryd.prog 33 #[.int .u8 (c.toNat : Int)] w fun e w' => e = .returned (.bool (isBl c)) ∧ w = w' := by
  rw [isBl_is]
  by_cases h1 : (c.toNat : Int) = 32
  · have d1 : ((c.toNat : Int) == 32) = true := beq_iff_eq.2 h1
    rw [decide_eq_true (Or.inl h1)]
    clear h1
    go_enter Tryd.func33, Tryd.ntmps33
    go_wp2
    go_ret
    exact ⟨rfl, rfl⟩
  · have d1 : ((c.toNat : Int) == 32) = false := beq_eq_false_iff_ne.2 h1
    by_cases h2 : (c.toNat : Int) = 9
    · have d2 : ((c.toNat : Int) == 9) = true := beq_iff_eq.2 h2
      rw [decide_eq_true (Or.inr h2)]
      clear h1 h2
      go_enter Tryd.func33, Tryd.ntmps33
      go_wp2
      go_ret
      exact ⟨rfl, rfl⟩
    · have d2 : ((c.toNat : Int) == 9) = false := beq_eq_false_iff_ne.2 h2
      rw [decide_eq_false (fun h => h.elim h1 h2)]
      clear h1 h2
      go_enter Tryd.func33, Tryd.ntmps33
      go_wp2
      go_ret
      exact ⟨rfl, rfl⟩

theorem drop_first (t : ByteArray) (h : 0 < t.size) : t.data.toList = t[0] :: (t.extract 1 t.size).data.toList := by
  have := drop_byte t 0 h
  rw [List.drop_zero] at this
  rw [this, Lib.extract_to_end]
theorem drop_last (t : ByteArray) (h : t.size - 1 < t.size) : t.data.toList = (t.extract 0 (t.size - 1)).data.toList ++ [t[t.size - 1]] := by
  rw [Lib.extract_data]
  have hl : t.data.toList.length = t.size := by simp
  have : t.data.toList.take (t.size - 1 + 1) = t.data.toList.take (t.size - 1) ++ [t.data.toList[t.size - 1]'(by omega)] := List.take_succ_eq_append_getElem (by omega)
  rw [List.take_of_length_le (by omega)] at this
  rw [List.drop_zero, Nat.sub_zero]
  exact this
set_option maxHeartbeats 800000 in
set_option maxRecDepth 100000 in
theorem trimmed_any (s : ByteArray) (w : World) (hs : s.size ≤ 4294967296) :
    Calls Tryd.prog 23 #[.string s] w fun e w' => e = .returned (.string (mkB (trimB s.data.toList))) ∧ w = w' := by
  have hsl : ∀ (t : ByteArray) (W : World), 0 < t.size → t.size ≤ 4294967296 → (Instr.slice 9 (.string t) none (some (.int .i64 ((t.size : Int) - 1))) none).run Tryd.prog W = .ok (.string (t.extract 0 (t.size - 1))) W := fun t W h1 h2 => by
    rw [run_slice_string_to_if (h := Tryd.underlying9), if_pos (by omega)]
    congr 3
    omega
  go_enter Tryd.func23, Tryd.ntmps23
  go_wp2
  go_loop [0] (fun v => ∃ t : ByteArray, v = .string t ∧ t.size ≤ s.size ∧ Hid (trimL t.data.toList = trimL s.data.toList)) (fun v => strLen v)
  case atStart => exact ⟨s, rfl, Nat.le_refl _, Lib.hid rfl⟩
  case round =>
    obtain ⟨t, rfl, ht, HR⟩ := hrel
    have hx : (∃ h : 0 < t.size, isBl t[0] = true) ∨ (¬ 0 < t.size ∨ ∃ h : 0 < t.size, isBl t[0] = false) := by
      by_cases h : 0 < t.size
      · cases hb : isBl t[0]
        · exact .inr (.inr ⟨h, hb⟩)
        · exact .inl ⟨h, hb⟩
      · exact .inr (.inl h)
    rcases hx with ⟨hlt, hb⟩ | hx
    · have HB := Lib.hid hb
      have HN : Hid (trimL (t.extract 1 t.size).data.toList = trimL s.data.toList) := Lib.hid (by rw [← HR.out, drop_first t hlt, trimL_bl hb])
      have hz : (t.extract 1 t.size).size = t.size - 1 := by simp
      have HZ := Lib.hid hz
      clear hb hz
      go_wp2_with (go_at_call 33; refine (blank_any _ _).mono ?_; rintro e w' ⟨rfl, rfl⟩; rw [HB.out])
      go_round
      case rel => exact ⟨_, rfl, by rw [HZ.out]; omega, HN⟩
      case measure => simp only [strLen]; rw [HZ.out]; omega
    · have HT : Hid (trimL s.data.toList = t.data.toList) := Lib.hid (by
        rw [← HR.out]
        apply trimL_self
        intro c hc
        rcases hx with hx | ⟨hlt, hb⟩
        · have : t.data.toList = [] := List.eq_nil_of_length_eq_zero (by rw [show t.data.toList.length = t.size from by simp]; omega)
          rw [this] at hc; cases hc
        · rw [drop_first t hlt, List.head?_cons] at hc
          rw [← Option.some.inj hc]; exact hb)
      rcases hx with hlt | ⟨hlt, hb⟩
      · go_wp2
        go_loop [0] (fun v => ∃ u : ByteArray, v = .string u ∧ u.size ≤ s.size ∧ Hid (trimR u.data.toList = trimB s.data.toList)) (fun v => strLen v)
        case atStart => exact ⟨t, rfl, ht, Lib.hid (by rw [trimB_is, HT.out])⟩
        case round =>
          clear HR HT
          obtain ⟨u, rfl, hu, HU⟩ := hrel
          have hy : (∃ h : u.size - 1 < u.size, isBl u[u.size - 1] = true) ∨ (¬ 0 < u.size ∨ ∃ h : u.size - 1 < u.size, isBl u[u.size - 1] = false) := by
            by_cases h : 0 < u.size
            · have h' : u.size - 1 < u.size := by omega
              cases hb : isBl u[u.size - 1]
              · exact .inr (.inr ⟨h', hb⟩)
              · exact .inl ⟨h', hb⟩
            · exact .inr (.inl h)
          rcases hy with ⟨q1, hb⟩ | hy
          · have HB := Lib.hid hb
            have HN : Hid (trimR (u.extract 0 (u.size - 1)).data.toList = trimB s.data.toList) := Lib.hid (by rw [← HU.out, drop_last u q1, trimR_bl hb])
            have HZ : Hid ((u.extract 0 (u.size - 1)).size = u.size - 1) := Lib.hid (by simp)
            have h0 : 0 < u.size := by omega
            have hs1 := fun W => hsl u W h0 (by omega)
            clear hb
            go_wp2_with (go_at_call 33; refine (blank_any _ _).mono ?_; rintro e w' ⟨rfl, rfl⟩; rw [HB.out])
            go_round
            case rel => exact ⟨_, rfl, by rw [HZ.out]; omega, HN⟩
            case measure => simp only [strLen]; rw [HZ.out]; omega
          · have HE : Hid (u = mkB (trimB s.data.toList)) := Lib.hid (by
              rw [← HU.out, trimR_self, mkB_self]
              intro c hc
              rcases hy with hy | ⟨q1, hb⟩
              · have : u.data.toList = [] := List.eq_nil_of_length_eq_zero (by rw [show u.data.toList.length = u.size from by simp]; omega)
                rw [this] at hc; cases hc
              · rw [drop_last u q1, List.getLast?_append] at hc
                have : (u[u.size - 1]) = c := by simpa using hc
                rw [← this]; exact hb)
            rcases hy with hlt2 | ⟨q1, hb⟩
            · go_wp2
              go_ret
              exact ⟨by show Ending.returned (.string u) = _; rw [HE.out], rfl⟩
            · have HB := Lib.hid hb
              have h0 : 0 < u.size := by omega
              clear hb
              go_wp2_with (go_at_call 33; refine (blank_any _ _).mono ?_; rintro e w' ⟨rfl, rfl⟩; rw [HB.out])
              go_ret
              exact ⟨by show Ending.returned (.string u) = _; rw [HE.out], rfl⟩
      · have HB := Lib.hid hb
        clear hb
        go_wp2_with (go_at_call 33; refine (blank_any _ _).mono ?_; rintro e w' ⟨rfl, rfl⟩; rw [HB.out])
        go_loop [0] (fun v => ∃ u : ByteArray, v = .string u ∧ u.size ≤ s.size ∧ Hid (trimR u.data.toList = trimB s.data.toList)) (fun v => strLen v)
        case atStart => exact ⟨t, rfl, ht, Lib.hid (by rw [trimB_is, HT.out])⟩
        case round =>
          clear HR HT
          obtain ⟨u, rfl, hu, HU⟩ := hrel
          have hy : (∃ h : u.size - 1 < u.size, isBl u[u.size - 1] = true) ∨ (¬ 0 < u.size ∨ ∃ h : u.size - 1 < u.size, isBl u[u.size - 1] = false) := by
            by_cases h : 0 < u.size
            · have h' : u.size - 1 < u.size := by omega
              cases hb : isBl u[u.size - 1]
              · exact .inr (.inr ⟨h', hb⟩)
              · exact .inl ⟨h', hb⟩
            · exact .inr (.inl h)
          rcases hy with ⟨q1, hb⟩ | hy
          · have HB := Lib.hid hb
            have HN : Hid (trimR (u.extract 0 (u.size - 1)).data.toList = trimB s.data.toList) := Lib.hid (by rw [← HU.out, drop_last u q1, trimR_bl hb])
            have HZ : Hid ((u.extract 0 (u.size - 1)).size = u.size - 1) := Lib.hid (by simp)
            have h0 : 0 < u.size := by omega
            have hs1 := fun W => hsl u W h0 (by omega)
            clear hb
            go_wp2_with (go_at_call 33; refine (blank_any _ _).mono ?_; rintro e w' ⟨rfl, rfl⟩; rw [HB.out])
            go_round
            case rel => exact ⟨_, rfl, by rw [HZ.out]; omega, HN⟩
            case measure => simp only [strLen]; rw [HZ.out]; omega
          · have HE : Hid (u = mkB (trimB s.data.toList)) := Lib.hid (by
              rw [← HU.out, trimR_self, mkB_self]
              intro c hc
              rcases hy with hy | ⟨q1, hb⟩
              · have : u.data.toList = [] := List.eq_nil_of_length_eq_zero (by rw [show u.data.toList.length = u.size from by simp]; omega)
                rw [this] at hc; cases hc
              · rw [drop_last u q1, List.getLast?_append] at hc
                have : (u[u.size - 1]) = c := by simpa using hc
                rw [← this]; exact hb)
            rcases hy with hlt2 | ⟨q1, hb⟩
            · go_wp2
              go_ret
              exact ⟨by show Ending.returned (.string u) = _; rw [HE.out], rfl⟩
            · have HB := Lib.hid hb
              have h0 : 0 < u.size := by omega
              clear hb
              go_wp2_with (go_at_call 33; refine (blank_any _ _).mono ?_; rintro e w' ⟨rfl, rfl⟩; rw [HB.out])
              go_ret
              exact ⟨by show Ending.returned (.string u) = _; rw [HE.out], rfl⟩
end Go.Proofs.YtbpbiakdigjcnaaDoor
