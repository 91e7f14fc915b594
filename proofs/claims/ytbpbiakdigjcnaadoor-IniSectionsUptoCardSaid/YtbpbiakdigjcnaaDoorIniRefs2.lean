/-
  The walks of the document's own two, parts, bare, meant, given.
-/
import Derived.Test.YtbpbiakdigjcnaaDoorIniLines
namespace Go.Proofs.YtbpbiakdigjcnaaDoor
open Go.ChangeShapes Go.WideShapes Go.ChangeAt Go.RowKit

theorem cls_one (b : Int) : cls b = 1 ↔ 97 ≤ b ∧ b ≤ 122 := by
  unfold cls; constructor
  · intro h; split at h
    · assumption
    · repeat' split at h
      all_goals omega
  · intro h; rw [if_pos h]
theorem cls_three (b : Int) : cls b = 3 ↔ 48 ≤ b ∧ b ≤ 57 := by
  unfold cls; constructor
  · intro h; split at h
    · omega
    · split at h
      · omega
      · split at h
        · assumption
        · repeat' split at h
          all_goals omega
  · intro h; rw [if_neg (by omega), if_neg (by omega), if_pos h]
theorem pg_small {b : Bool} {c : UInt8} {r : List UInt8} (h : 97 ≤ (c.toNat : Int) ∧ (c.toNat : Int) ≤ 122) : partsGo b (c :: r) = partsGo false r := by rw [partsGo, if_pos ((cls_one _).2 h)]
theorem pg_digit {b : Bool} {c : UInt8} {r : List UInt8} (h : 48 ≤ (c.toNat : Int) ∧ (c.toNat : Int) ≤ 57) : partsGo b (c :: r) = if b = true then false else partsGo false r := by rw [partsGo, if_neg (fun e => by have := (cls_one _).1 e; omega), if_pos ((cls_three _).2 h)]
theorem pg_point {b : Bool} {c : UInt8} {r : List UInt8} (h : (c.toNat : Int) = 46) : partsGo b (c :: r) = if b = true then false else partsGo true r := by rw [partsGo, if_neg (fun e => by have := (cls_one _).1 e; omega), if_neg (fun e => by have := (cls_three _).1 e; omega), if_pos h]
theorem pg_no {b : Bool} {c : UInt8} {r : List UInt8} (h1 : ¬ (97 ≤ (c.toNat : Int) ∧ (c.toNat : Int) ≤ 122)) (h2 : ¬ (48 ≤ (c.toNat : Int) ∧ (c.toNat : Int) ≤ 57)) (h3 : ¬ (c.toNat : Int) = 46) : partsGo b (c :: r) = false := by
  rw [partsGo, if_neg (fun e => h1 ((cls_one _).1 e)), if_neg (fun e => h2 ((cls_three _).1 e)), if_neg h3]

set_option maxHeartbeats 1600000 in
set_option maxRecDepth 100000 in
theorem parts_any (s : ByteArray) (w : World) (hs : s.size ≤ maxLen) :
    Calls Tryd.prog 40 #[.string s] w fun e w' => e = .returned (.bool (partsB s.data.toList)) ∧ w = w' := by
  unfold maxLen at hs
  obtain ⟨r, hr⟩ : ∃ r, partsB s.data.toList = r := ⟨_, rfl⟩
  have HR0 : Hid (partsGo true (s.data.toList.drop 0) = r) := Lib.hid hr
  rw [hr]
  clear hr
  go_enter Tryd.func40, Tryd.ntmps40
  go_wp2
  go_loop [3, 4] (fun b i => ∃ (t : Nat) (g : Bool), b = .bool g ∧ i = .int .i64 t ∧ t ≤ s.size ∧ Hid (partsGo g (s.data.toList.drop t) = r)) (fun _ i => s.size - (intOf i).toNat)
  case atStart => exact ⟨0, true, rfl, rfl, by omega, HR0⟩
  case round =>
    clear HR0
    obtain ⟨t, g, rfl, rfl, ht, HR⟩ := hrel
    by_cases hlt : t < s.size
    · have hb := byte_le s t hlt
      have HD := Lib.hid (drop_byte s t hlt)
      by_cases s1 : 97 ≤ (s[t].toNat : Int) ∧ (s[t].toNat : Int) ≤ 122
      · have HN : Hid (partsGo false (s.data.toList.drop (t + 1)) = r) := Lib.hid (by rw [← HR.out, HD.out, pg_small s1])
        obtain ⟨s2, s3⟩ := s1
        go_wp2
        go_round
        case rel => exact ⟨t + 1, false, rfl, by go_num, by omega, HN⟩
        case measure => simp [intOf]; omega
      by_cases s2 : 48 ≤ (s[t].toNat : Int) ∧ (s[t].toNat : Int) ≤ 57
      · have HN : Hid ((if g = true then false else partsGo false (s.data.toList.drop (t + 1))) = r) := Lib.hid (by rw [← HR.out, HD.out, pg_digit s2])
        obtain ⟨s3, s4⟩ := s2
        have s5 : ¬ 97 ≤ (s[t].toNat : Int) := by omega
        clear s1
        cases g with
        | true =>
          go_wp2
          go_ret
          exact ⟨by rw [← HN.out]; rfl, rfl⟩
        | false =>
          go_wp2
          go_round
          case rel => exact ⟨t + 1, false, rfl, by go_num, by omega, Lib.hid (by rw [← HN.out]; rfl)⟩
          case measure => simp [intOf]; omega
      by_cases s3 : (s[t].toNat : Int) = 46
      · have HN : Hid ((if g = true then false else partsGo true (s.data.toList.drop (t + 1))) = r) := Lib.hid (by rw [← HR.out, HD.out, pg_point s3])
        have s5 : ¬ 97 ≤ (s[t].toNat : Int) := by omega
        have s6 : ¬ 48 ≤ (s[t].toNat : Int) := by omega
        have d1 : ((s[t].toNat : Int) == 46) = true := beq_iff_eq.2 s3
        clear s1 s2 s3
        cases g with
        | true =>
          go_wp2
          go_ret
          exact ⟨by rw [← HN.out]; rfl, rfl⟩
        | false =>
          go_wp2
          go_round
          case rel => exact ⟨t + 1, true, rfl, by go_num, by omega, Lib.hid (by rw [← HN.out]; rfl)⟩
          case measure => simp [intOf]; omega
      · have HN : Hid (r = false) := Lib.hid (by rw [← HR.out, HD.out, pg_no s1 s2 s3])
        have d1 : ((s[t].toNat : Int) == 46) = false := beq_eq_false_iff_ne.2 s3
        clear s3
        by_cases e1 : 97 ≤ (s[t].toNat : Int)
        · have e2 : ¬ (s[t].toNat : Int) ≤ 122 := fun h => s1 ⟨e1, h⟩
          have e3 : 48 ≤ (s[t].toNat : Int) := by omega
          have e4 : ¬ (s[t].toNat : Int) ≤ 57 := by omega
          clear s1 s2
          go_wp2
          go_ret
          exact ⟨by rw [HN.out]; first | done | rfl, rfl⟩
        · by_cases e3 : 48 ≤ (s[t].toNat : Int)
          · have e4 : ¬ (s[t].toNat : Int) ≤ 57 := fun h => s2 ⟨e3, h⟩
            clear s1 s2
            go_wp2
            go_ret
            exact ⟨by rw [HN.out]; first | done | rfl, rfl⟩
          · clear s1 s2
            go_wp2
            go_ret
            exact ⟨by rw [HN.out]; first | done | rfl, rfl⟩
    · have HE : Hid (r = !g) := Lib.hid (by rw [← HR.out, List.drop_eq_nil_of_le (by simp; omega)]; rfl)
      go_wp2
      go_ret
      exact ⟨by rw [HE.out]; first | done | rfl, rfl⟩

theorem count_drop {s : ByteArray} {t : Nat} {d : UInt8} {D : List UInt8} (h : s.data.toList.drop t = d :: D) (c : UInt8) : (s.data.toList.drop t).count c = (if d = c then 1 else 0) + D.count c := by
  rw [h, List.count_cons]
  by_cases e : d = c
  · subst e; simp; omega
  · rw [if_neg e]; simp [e]
set_option maxHeartbeats 800000 in
set_option maxRecDepth 100000 in
theorem two_any (s : ByteArray) (w : World) (hs : s.size ≤ 4294967296) :
    Calls Tryd.prog 30 #[.string s] w fun e w' => e = .returned (.bool (decide (s.data.toList.count 46 < 2) && partsB s.data.toList)) ∧ w = w' := by
  have HP := Lib.hid (parts_any s w (by unfold maxLen; omega))
  obtain ⟨n, hn⟩ : ∃ n, s.data.toList.count 46 = n := ⟨_, rfl⟩
  have hnl : n ≤ s.size := by
    have := List.count_le_length (a := (46 : UInt8)) (l := s.data.toList)
    rw [hn] at this
    simpa using this
  have HR0 : Hid (0 + (s.data.toList.drop 0).count 46 = n) := Lib.hid (by rw [← hn]; simp)
  rw [hn]
  generalize partsB s.data.toList = q at *
  clear hn
  go_enter Tryd.func30, Tryd.ntmps30
  go_wp2
  go_loop [3, 4] (fun a i => ∃ (t k : Nat), a = .int .i64 k ∧ i = .int .i64 t ∧ t ≤ s.size ∧ k ≤ t ∧ Hid (k + (s.data.toList.drop t).count 46 = n)) (fun _ i => s.size - (intOf i).toNat)
  case atStart => exact ⟨0, 0, rfl, rfl, by omega, by omega, HR0⟩
  case round =>
    clear HR0
    obtain ⟨t, k, rfl, rfl, ht, hk, HR⟩ := hrel
    by_cases hlt : t < s.size
    · have hb := byte_le s t hlt
      have HC := Lib.hid (count_drop (drop_byte s t hlt) 46)
      by_cases s3 : (s[t].toNat : Int) = 46
      · have e : s[t] = 46 := UInt8.toNat_inj.1 (by simp; omega)
        have HN : Hid (k + 1 + (s.data.toList.drop (t + 1)).count 46 = n) := Lib.hid (by rw [← HR.out, HC.out, if_pos e]; omega)
        have d1 : ((s[t].toNat : Int) == 46) = true := beq_iff_eq.2 s3
        clear e
        go_wp2
        go_round
        case rel => exact ⟨t + 1, k + 1, by go_num, by go_num, by omega, by omega, HN⟩
        case measure => simp [intOf]; omega
      · have e : ¬ s[t] = 46 := fun e => s3 (by rw [e]; rfl)
        have HN : Hid (k + (s.data.toList.drop (t + 1)).count 46 = n) := Lib.hid (by rw [← HR.out, HC.out, if_neg e]; omega)
        have d1 : ((s[t].toNat : Int) == 46) = false := beq_eq_false_iff_ne.2 s3
        clear e
        go_wp2
        go_round
        case rel => exact ⟨t + 1, k, rfl, by go_num, by omega, by omega, HN⟩
        case measure => simp [intOf]; omega
    · have HE : Hid (k = n) := Lib.hid (by have h := HR.out; rw [List.drop_eq_nil_of_le (by simp; omega)] at h; simpa using h)
      by_cases h2 : k < 2
      · have HB : Hid (decide (n < 2) = true) := Lib.hid (decide_eq_true (by have := HE.out; omega))
        go_wp2_with fail
        refine HP.out.mono ?_
        rintro e w' ⟨rfl, rfl⟩
        go_wp2
        go_ret
        exact ⟨by rw [HB.out]; first | done | rfl, rfl⟩
      · have HB : Hid (decide (n < 2) = false) := Lib.hid (decide_eq_false (by have := HE.out; omega))
        go_wp2
        go_ret
        exact ⟨by rw [HB.out]; first | done | rfl, rfl⟩

set_option maxHeartbeats 800000 in
set_option maxRecDepth 100000 in
theorem bare_any (s : ByteArray) (w : World) (hs : s.size ≤ maxLen) :
    Calls Tryd.prog 22 #[.string s] w fun e w' => e = .returned (.bool (bareB s.data.toList)) ∧ w = w' := by
  unfold maxLen at hs
  obtain ⟨r, hr⟩ : ∃ r, bareB s.data.toList = r := ⟨_, rfl⟩
  have HR := Lib.hid hr
  rw [hr]
  clear hr
  go_enter Tryd.func22, Tryd.ntmps22
  go_wp2
  go_loop [3] (fun i => ∃ k : Nat, i = .int .i64 k ∧ k ≤ s.size ∧ Hid (plainB s.data.toList = plainB (s.data.toList.drop k))) (fun i => s.size - (intOf i).toNat)
  case atStart => exact ⟨0, rfl, by omega, Lib.hid rfl⟩
  case round =>
    obtain ⟨k, rfl, hk, HP⟩ := hrel
    by_cases hlt : k < s.size
    · have hb := byte_le s k hlt
      have HD := Lib.hid (drop_byte s k hlt)
      by_cases c1 : (s[k].toNat : Int) < 32
      · have HN : Hid (r = false) := Lib.hid (by rw [← HR.out]; unfold bareB; rw [plain_no HP.out HD.out (decide_eq_false (by omega)), Bool.false_and])
        go_wp2
        go_ret
        exact ⟨by rw [HN.out]; first | done | rfl, rfl⟩
      · by_cases c2 : 126 < (s[k].toNat : Int)
        · have HN : Hid (r = false) := Lib.hid (by rw [← HR.out]; unfold bareB; rw [plain_no HP.out HD.out (decide_eq_false (by omega)), Bool.false_and])
          go_wp2
          go_ret
          exact ⟨by rw [HN.out]; first | done | rfl, rfl⟩
        · have HN : Hid (plainB s.data.toList = plainB (s.data.toList.drop (k + 1))) := Lib.hid (plain_yes HP.out HD.out (decide_eq_true (by omega)))
          go_wp2
          go_round
          case rel => exact ⟨k + 1, by go_num, by omega, HN⟩
          case measure => simp [intOf]; omega
    · have HN : Hid (r = !(s.data.toList.head? == some 34)) := Lib.hid (by rw [← HR.out]; unfold bareB; rw [HP.out, List.drop_eq_nil_of_le (by simp; omega)]; rfl)
      by_cases he : s.size = 0
      · have hnil : s.data.toList = [] := List.eq_nil_of_length_eq_zero (by rw [show s.data.toList.length = s.size from by simp]; omega)
        have HE : Hid (r = true) := Lib.hid (by rw [HN.out, hnil]; rfl)
        have d0 : s.toList.isEmpty = true := by rw [toList_eq, hnil]; rfl
        clear hnil
        go_wp2
        go_ret
        exact ⟨by rw [HE.out]; first | done | rfl, rfl⟩
      · have h0 : 0 < s.size := by omega
        have hfirst := drop_first s h0
        have hb := byte_le s 0 h0
        have d0 : s.toList.isEmpty = false := by rw [toList_eq, hfirst]; rfl
        by_cases hq : (s[0].toNat : Int) = 34
        · have e : s[0] = 34 := UInt8.toNat_inj.1 (by simp; omega)
          have HE : Hid (r = false) := Lib.hid (by rw [HN.out, hfirst, List.head?_cons, e]; rfl)
          have d1 := ne_false hq
          clear hfirst e hq
          go_wp2
          go_ret
          exact ⟨by rw [HE.out]; first | done | rfl, rfl⟩
        · have e : ¬ s[0] = 34 := fun e => hq (by rw [e]; rfl)
          have HE : Hid (r = true) := Lib.hid (by
            rw [HN.out, hfirst, List.head?_cons]
            have : (some s[0] == some (34 : UInt8)) = false := beq_eq_false_iff_ne.2 (fun h => e (Option.some.inj h))
            rw [this]; rfl)
          have d1 := ne_true hq
          clear hfirst e hq
          go_wp2
          go_ret
          exact ⟨by rw [HE.out]; first | done | rfl, rfl⟩

set_option maxHeartbeats 800000 in
set_option maxRecDepth 100000 in
theorem refMeant_any (s : ByteArray) (w : World) (hs : s.size ≤ 4294967296) :
    Calls Tryd.prog 41 #[.string s] w fun e w' => e = .returned (.tuple #[.string (mkB (docMeant s.data.toList).1), .bool (docMeant s.data.toList).2]) ∧ Below w.heap.size w w' := by
  have HB := Lib.hid (bare_any s w (by unfold maxLen; omega))
  have hl : s.data.toList.length = s.size := by simp
  cases hb : bareB s.data.toList with
  | true =>
    rw [hb] at HB
    have HD : Hid (docMeant s.data.toList = (s.data.toList, decide (s.size ≤ 200))) := Lib.hid (by unfold docMeant; rw [hb, if_pos rfl, hl])
    have HM : Hid (mkB s.data.toList = s) := Lib.hid (mkB_self s)
    clear hb hl
    go_enter Tryd.func41, Tryd.ntmps41
    go_wp2_with fail
    refine HB.out.mono ?_
    rintro e w' ⟨rfl, rfl⟩
    go_wp2
    go_ret2
    exact ⟨by rw [HD.out]; simp only; rw [HM.out]; simp; omega, Below.refl _ _⟩
  | false =>
    rw [hb] at HB
    have HU := Lib.hid (refUnquote_any s w hs)
    cases hu : unqL s.data.toList with
    | none =>
      rw [hu] at HU
      have HD : Hid (docMeant s.data.toList = ([], false)) := Lib.hid (by unfold docMeant; rw [hb, hu]; rfl)
      unfold unqEnd at HU
      simp only at HU
      clear hb hl hu
      go_enter Tryd.func41, Tryd.ntmps41
      go_wp2_with fail
      refine HB.out.mono ?_
      rintro e w' ⟨rfl, rfl⟩
      go_wp2_with fail
      refine HU.out.mono ?_
      rintro e w1 ⟨rfl, hb1⟩
      go_wp2
      go_ret2
      exact ⟨by rw [HD.out]; rfl, hb1⟩
    | some u =>
      rw [hu] at HU
      have HD : Hid (docMeant s.data.toList = (u, decide ((mkB u).size ≤ 200))) := Lib.hid (by unfold docMeant; rw [hb, hu]; simp only [Bool.false_eq_true, if_false]; rw [len_mkB])
      have hub : unqEnd (some u) = .returned (.tuple #[.string (mkB u), .int .i64 0]) := rfl
      rw [hub] at HU
      clear hb hl hu hub
      obtain ⟨ub, hub⟩ : ∃ ub, mkB u = ub := ⟨_, rfl⟩
      have HUB := Lib.hid hub
      rw [hub] at HU HD
      clear hub
      go_enter Tryd.func41, Tryd.ntmps41
      go_wp2_with fail
      refine HB.out.mono ?_
      rintro e w' ⟨rfl, rfl⟩
      go_wp2_with fail
      refine HU.out.mono ?_
      rintro e w1 ⟨rfl, hb1⟩
      go_wp2
      go_ret2
      exact ⟨by rw [HD.out]; simp only; rw [HUB.out]; simp; omega, hb1⟩
end Go.Proofs.YtbpbiakdigjcnaaDoor
