/-
  GlyphNames3.
-/
import Derived.Test.YtopghlnoklajkaaGreatDoorQGlyphNames2
import Derived.Lib.IndexBytes
namespace Go.Proofs.YtopghlnoklajkaaGreatDoor
open Go.ChangeShapes Go.WideShapes Go.ChangeAt Go.RowKit

/-- Is what goes on a part of a name? 'f': its first byte is to come. -/
def partGo (f : Bool) : List UInt8 → Bool
  | [] => true
  | c :: r => if cls c.toNat = 1 then partGo false r else if f = true then false else if cls c.toNat = 3 then partGo false r else false
def partB (l : List UInt8) : Bool := !l.isEmpty && partGo true l
/-- The document's way: parts are cut out, one by one. -/
def refName (n : Nat) (cur : List UInt8) : List UInt8 → Bool
  | [] => partB cur && decide (n ≤ 3)
  | c :: r => if (c.toNat : Int) = 46 then (if partB cur = true then refName (n + 1) [] r else false) else refName n (cur ++ [c]) r

theorem cls_point : cls 46 = 5 := by decide
theorem partGo_snoc (f : Bool) (l : List UInt8) (c : UInt8) :
    partGo f (l ++ [c]) = (partGo f l && (decide (cls c.toNat = 1) || (!(f && l.isEmpty) && decide (cls c.toNat = 3)))) := by
  induction l generalizing f with
  | nil =>
    simp only [List.nil_append, partGo, List.isEmpty_nil, Bool.and_true]
    by_cases h1 : cls c.toNat = 1
    · simp [h1]
    · cases f
      · by_cases h3 : cls c.toNat = 3 <;> simp [h1, h3]
      · simp [h1]
  | cons d r ih =>
    simp only [List.cons_append, partGo, ih]
    by_cases h1 : cls d.toNat = 1
    · simp [h1]
    · cases f
      · by_cases h3 : cls d.toNat = 3 <;> simp [h1, h3]
      · simp [h1]
theorem snoc_ne (l : List UInt8) (c : UInt8) : (l ++ [c]).isEmpty = false := by cases l <;> rfl
theorem refName_bad (r : List UInt8) : ∀ (n : Nat) (cur : List UInt8), partGo true cur = false → refName n cur r = false := by
  induction r with
  | nil => intro n cur h; simp [refName, partB, h]
  | cons c r ih =>
    intro n cur h
    have hp : partB cur = false := by simp [partB, h]
    rw [refName]
    split
    · rw [hp]; simp
    · exact ih n _ (by rw [partGo_snoc, h]; rfl)
theorem nameGo_ref (r : List UInt8) : ∀ (n : Nat) (cur : List UInt8), partGo true cur = true → nameGo n cur.isEmpty r = refName n cur r := by
  induction r with
  | nil => intro n cur h; simp [nameGo, refName, partB, h]
  | cons c r ih =>
    intro n cur h
    by_cases h1 : cls c.toNat = 1
    · have hne : ¬ (c.toNat : Int) = 46 := by intro e; rw [e, cls_point] at h1; exact absurd h1 (by decide)
      rw [nameGo_small h1, refName, if_neg hne]
      have := ih n (cur ++ [c]) (by rw [partGo_snoc, h]; simp [h1])
      rw [← this, snoc_ne]
    · rcases Bool.eq_false_or_eq_true cur.isEmpty with he | he
      · rw [he, nameGo_begin h1]
        have hc : cur = [] := by simpa using he
        subst hc
        rw [refName]
        split
        · simp [partB]
        · rw [refName_bad]; rw [partGo_snoc]; simp [h1]
      · rw [he]
        have hp : partB cur = true := by simp only [partB, h, he]; rfl
        by_cases h2 : (c.toNat : Int) = 46
        · rw [nameGo_point h1 h2, refName, if_pos h2, if_pos hp, ← ih (n + 1) [] rfl]; rfl
        · by_cases h3 : cls c.toNat = 3
          · rw [nameGo_digit h1 h2 h3, refName, if_neg h2]
            have := ih n (cur ++ [c]) (by rw [partGo_snoc, h]; simp [h3, he])
            rw [← this, snoc_ne]
          · rw [nameGo_no h1 h2 h3, refName, if_neg h2, refName_bad]
            rw [partGo_snoc]; simp [h1, h3]

theorem partGo_small {f : Bool} {c : UInt8} {r : List UInt8} (h : cls c.toNat = 1) : partGo f (c :: r) = partGo false r := by rw [partGo, if_pos h]
theorem partGo_first {c : UInt8} {r : List UInt8} (h : ¬ cls c.toNat = 1) : partGo true (c :: r) = false := by rw [partGo, if_neg h, if_pos rfl]
theorem partGo_digit {c : UInt8} {r : List UInt8} (h : ¬ cls c.toNat = 1) (h3 : cls c.toNat = 3) : partGo false (c :: r) = partGo false r := by rw [partGo, if_neg h, if_neg (by simp), if_pos h3]
theorem partGo_no {c : UInt8} {r : List UInt8} (h : ¬ cls c.toNat = 1) (h3 : ¬ cls c.toNat = 3) : partGo false (c :: r) = false := by rw [partGo, if_neg h, if_neg (by simp), if_neg h3]

set_option maxHeartbeats 800000 in
theorem part_any (s : ByteArray) (w : World) (hs : s.size ≤ maxLen) :
    Calls Tryz.prog 94 #[.string s] w fun e w' => e = .returned (.bool (partB s.data.toList)) ∧ w = w' := by
  unfold maxLen at hs
  go_enter Tryz.func94, Tryz.ntmps94
  go_wp2
  go_loop [3] (fun i => ∃ k : Nat, k ≤ s.size ∧ i = .int .i64 k ∧ Hid (partGo true s.data.toList = partGo (decide (k = 0)) (s.data.toList.drop k))) (fun i => s.size - (intOf i).toNat)
  case atStart => exact ⟨0, by omega, rfl, Lib.hid rfl⟩
  case round =>
    obtain ⟨k, hk, rfl, HR⟩ := hrel
    by_cases hlt : k < s.size
    · have hb := byte_le s k hlt
      have HD := Lib.hid (drop_byte s k hlt)
      have HE : Hid (decide (k + 1 = 0) = false) := Lib.hid (by simp)
      have HN : Hid (partGo true s.data.toList = false → partB s.data.toList = false) := Lib.hid (fun h => by rw [partB, h]; simp)
      by_cases c1 : cls s[k].toNat = 1
      · have d1 := ne_false c1
        have C1 := Lib.hid c1
        clear c1
        go_wp2_with (go_at_call 128; refine (refClass_any _ _).mono ?_; rintro e w' ⟨rfl, rfl⟩)
        go_round
        case rel => exact ⟨k + 1, by omega, by go_num, Lib.hid (by rw [HR.out, HD.out, partGo_small C1.out, HE.out])⟩
        case measure => simp [intOf]; omega
      have d1 := ne_true c1
      have C1 := Lib.hid c1
      clear c1
      by_cases hz : k = 0
      · have hz' : ((k : Int) == 0) = true := by simp [hz]
        have HZ : Hid (decide (k = 0) = true) := Lib.hid (by simpa using hz)
        clear hz
        go_wp2_with (go_at_call 128; refine (refClass_any _ _).mono ?_; rintro e w' ⟨rfl, rfl⟩)
        go_ret
        exact ⟨ret_bool (HN.out (by rw [HR.out, HD.out, HZ.out]; exact partGo_first C1.out)), rfl⟩
      · have hz' : ((k : Int) == 0) = false := by simp; omega
        have HZ : Hid (decide (k = 0) = false) := Lib.hid (by simpa using hz)
        clear hz
        by_cases c3 : cls s[k].toNat = 3
        · have d3 := ne_false c3
          have C3 := Lib.hid c3
          clear c3
          go_wp2_with (go_at_call 128; refine (refClass_any _ _).mono ?_; rintro e w' ⟨rfl, rfl⟩)
          go_round
          case rel => exact ⟨k + 1, by omega, by go_num, Lib.hid (by rw [HR.out, HD.out, HZ.out, partGo_digit C1.out C3.out, HE.out])⟩
          case measure => simp [intOf]; omega
        · have d3 := ne_true c3
          have C3 := Lib.hid c3
          clear c3
          go_wp2_with (go_at_call 128; refine (refClass_any _ _).mono ?_; rintro e w' ⟨rfl, rfl⟩)
          go_ret
          exact ⟨ret_bool (HN.out (by rw [HR.out, HD.out, HZ.out]; exact partGo_no C1.out C3.out)), rfl⟩
    · have HE : Hid (partB s.data.toList = !s.data.toList.isEmpty) := Lib.hid (by rw [partB, HR.out, List.drop_eq_nil_of_le (by simp; omega)]; simp [partGo])
      go_wp2
      all_goals
        go_ret
        exact ⟨ret_bool (by rw [HE.out]; simp_all [Lib.toList_data]), rfl⟩

theorem nameB_ref (l : List UInt8) : nameB l = (refName 1 [] l && decide (l.length ≤ 32)) := by
  rw [nameB, ← nameGo_ref l 1 [] rfl, Bool.and_comm]; rfl
theorem refName_step {n : Nat} {cur : List UInt8} {c : UInt8} {r : List UInt8} (h : ¬ (c.toNat : Int) = 46) : refName n cur (c :: r) = refName n (cur ++ [c]) r := by rw [refName, if_neg h]
theorem refName_point {n : Nat} {cur : List UInt8} {c : UInt8} {r : List UInt8} (h : (c.toNat : Int) = 46) (hp : partB cur = true) : refName n cur (c :: r) = refName (n + 1) [] r := by rw [refName, if_pos h, if_pos hp]
theorem refName_no {n : Nat} {cur : List UInt8} {c : UInt8} {r : List UInt8} (h : (c.toNat : Int) = 46) (hp : partB cur = false) : refName n cur (c :: r) = false := by rw [refName, if_pos h, hp]; simp
theorem cut_step (s : ByteArray) (f k : Nat) (hf : f ≤ k) (hk : k < s.size) : (s.data.toList.drop f).take (k - f) ++ [s[k]] = (s.data.toList.drop f).take (k + 1 - f) := by
  rw [show k + 1 - f = (k - f) + 1 from by omega, List.take_succ_eq_append_getElem (by simp; omega)]
  congr 2
  simp only [List.getElem_drop, show f + (k - f) = k from by omega]
  rfl

set_option maxHeartbeats 800000 in
theorem refIsName_any (s : ByteArray) (w : World) (hs : s.size ≤ 4294967296) :
    Calls Tryz.prog 59 #[.string s] w fun e w' => e = .returned (.bool (nameB s.data.toList)) ∧ w = w' := by
  have HF := Lib.hid (nameB_ref s.data.toList)
  go_enter Tryz.func59, Tryz.ntmps59
  go_wp2
  go_loop [3, 4, 5] (fun p q i => ∃ (k f n : Nat), f ≤ k ∧ k ≤ s.size ∧ n ≤ k + 1 ∧ p = .int .i64 n ∧ q = .int .i64 f ∧ i = .int .i64 k ∧ Hid (refName 1 [] s.data.toList = refName n ((s.data.toList.drop f).take (k - f)) (s.data.toList.drop k))) (fun _ _ i => s.size - (intOf i).toNat)
  case atStart => exact ⟨0, 0, 1, by omega, by omega, by omega, rfl, rfl, rfl, Lib.hid rfl⟩
  case round =>
    obtain ⟨k, f, n, hf, hk, hn, rfl, rfl, rfl, HR⟩ := hrel
    by_cases hlt : k < s.size
    · have hb := byte_le s k hlt
      have HD := Lib.hid (drop_byte s k hlt)
      by_cases c2 : (s[k].toNat : Int) = 46
      · have d2 : ((s[k].toNat : Int) == 46) = true := beq_iff_eq.2 c2
        have C2 := Lib.hid c2
        clear c2
        have HX := Lib.hid (Lib.extract_data s f k)
        go_wp2_with fail
        refine (part_any _ _ (by simp [maxLen]; omega)).mono ?_
        rintro e w' ⟨rfl, rfl⟩
        rw [HX.out]
        rcases Bool.eq_false_or_eq_true (partB ((s.data.toList.drop f).take (k - f))) with hp | hp
        · have HP := Lib.hid hp
          rw [hp]
          clear hp
          go_wp2
          go_round
          case rel => exact ⟨k + 1, k + 1, n + 1, by omega, by omega, by omega, by go_num, by go_num, by go_num, Lib.hid (by rw [HR.out, HD.out, refName_point C2.out HP.out]; simp)⟩
          case measure => simp [intOf]; omega
        · have HP := Lib.hid hp
          rw [hp]
          clear hp
          go_wp2
          go_ret
          exact ⟨ret_bool (by rw [HF.out, HR.out, HD.out, refName_no C2.out HP.out]; rfl), rfl⟩
      · have d2 : ((s[k].toNat : Int) == 46) = false := beq_eq_false_iff_ne.2 c2
        have C2 := Lib.hid c2
        clear c2
        have HC := Lib.hid (cut_step s f k hf hlt)
        go_wp2
        go_round
        case rel => exact ⟨k + 1, f, n, by omega, by omega, by omega, rfl, rfl, by go_num, Lib.hid (by rw [HR.out, HD.out, refName_step C2.out, HC.out])⟩
        case measure => simp [intOf]; omega
    · have hk' : k = s.size := by omega
      have HX : Hid ((s.extract f s.size).data.toList = (s.data.toList.drop f).take (k - f)) := Lib.hid (by rw [Lib.extract_data, hk'])
      have HE : Hid (refName n ((s.data.toList.drop f).take (k - f)) (s.data.toList.drop k) = (partB ((s.data.toList.drop f).take (k - f)) && decide (n ≤ 3))) := Lib.hid (by
        rw [show s.data.toList.drop k = [] from List.drop_eq_nil_of_le (by simp; omega)]; rfl)
      have HL : Hid (decide (s.data.toList.length ≤ 32) = decide (s.size ≤ 32)) := Lib.hid (by simp)
      clear hk'
      go_wp2_with fail
      refine (part_any _ _ (by simp [maxLen]; omega)).mono ?_
      rintro e w' ⟨rfl, rfl⟩
      rw [HX.out]
      rcases Bool.eq_false_or_eq_true (partB ((s.data.toList.drop f).take (k - f))) with hp | hp
      · have HP := Lib.hid hp
        rw [hp]
        clear hp
        by_cases h3 : n ≤ 3
        · by_cases h4 : s.size ≤ 32
          · go_wp2
            go_ret
            exact ⟨ret_bool (by rw [HF.out, HR.out, HE.out, HP.out, HL.out]; simp [h3, h4]; omega), rfl⟩
          · go_wp2
            go_ret
            exact ⟨ret_bool (by rw [HF.out, HR.out, HE.out, HP.out, HL.out]; simp [h3, h4]; omega), rfl⟩
        · go_wp2
          go_ret
          exact ⟨ret_bool (by rw [HF.out, HR.out, HE.out, HP.out, HL.out]; simp [h3]), rfl⟩
      · have HP := Lib.hid hp
        rw [hp]
        clear hp
        go_wp2
        go_ret
        exact ⟨ret_bool (by rw [HF.out, HR.out, HE.out, HP.out, HL.out]; rfl), rfl⟩
end Go.Proofs.YtopghlnoklajkaaGreatDoor
