/-
  GlyphNames3, CutMath, RefsMath.
-/
import Derived.Test.YtopghlnoklajkaaGreatDoorQGlyphNames2
import Derived.Lib.IndexBytes
import Derived.Test.YtopghlnoklajkaaGreatDoorQValueMath
import Derived.Lib.CutLaws
import Derived.Lib.IndexMore
namespace Go.Proofs.YtopghlnoklajkaaGreatDoor
open Go.ChangeShapes Go.WideShapes Go.ChangeAt Go.RowKit

/-- Is what goes on a part of a name? 'f': its first byte is to come. -/
def partGo (f : Bool) : List UInt8 → Bool
  | [] => true
  | c :: r => if cls c.toNat = 1 then partGo false r else if f = true then false else if cls c.toNat = 3 then partGo false r else false
def partB (l : List UInt8) : Bool := !l.isEmpty && partGo true l
/-- The document's way: parts are cut out, one by one. -/
def refName (n : Nat) (cur : List UInt8) : List UInt8 → Bool
  | [] => partB cur && decide (n ≤ 3)
  | c :: r => if (c.toNat : Int) = 46 then (if partB cur = true then refName (n + 1) [] r else false) else refName n (cur ++ [c]) r

theorem cls_point : cls 46 = 5 := by decide
theorem partGo_snoc (f : Bool) (l : List UInt8) (c : UInt8) :
    partGo f (l ++ [c]) = (partGo f l && (decide (cls c.toNat = 1) || (!(f && l.isEmpty) && decide (cls c.toNat = 3)))) := by
  induction l generalizing f with
  | nil =>
    simp only [List.nil_append, partGo, List.isEmpty_nil, Bool.and_true]
    by_cases h1 : cls c.toNat = 1
    · simp [h1]
    · cases f
      · by_cases h3 : cls c.toNat = 3 <;> simp [h1, h3]
      · simp [h1]
  | cons d r ih =>
    simp only [List.cons_append, partGo, ih]
    by_cases h1 : cls d.toNat = 1
    · simp [h1]
    · cases f
      · by_cases h3 : cls d.toNat = 3 <;> simp [h1, h3]
      · simp [h1]
theorem snoc_ne (l : List UInt8) (c : UInt8) : (l ++ [c]).isEmpty = false := by cases l <;> rfl
theorem refName_bad (r : List UInt8) : ∀ (n : Nat) (cur : List UInt8), partGo true cur = false → refName n cur r = false := by
  induction r with
  | nil => intro n cur h; simp [refName, partB, h]
  | cons c r ih =>
    intro n cur h
    have hp : partB cur = false := by simp [partB, h]
    rw [refName]
    split
    · rw [hp]; simp
    · exact ih n _ (by rw [partGo_snoc, h]; rfl)
theorem nameGo_ref (r : List UInt8) : ∀ (n : Nat) (cur : List UInt8), partGo true cur = true → nameGo n cur.isEmpty r = refName n cur r := by
  induction r with
  | nil => intro n cur h; simp [nameGo, refName, partB, h]
  | cons c r ih =>
    intro n cur h
    by_cases h1 : cls c.toNat = 1
    · have hne : ¬ (c.toNat : Int) = 46 := by intro e; rw [e, cls_point] at h1; exact absurd h1 (by decide)
      rw [nameGo_small h1, refName, if_neg hne]
      have := ih n (cur ++ [c]) (by rw [partGo_snoc, h]; simp [h1])
      rw [← this, snoc_ne]
    · rcases Bool.eq_false_or_eq_true cur.isEmpty with he | he
      · rw [he, nameGo_begin h1]
        have hc : cur = [] := by simpa using he
        subst hc
        rw [refName]
        split
        · simp [partB]
        · rw [refName_bad]; rw [partGo_snoc]; simp [h1]
      · rw [he]
        have hp : partB cur = true := by simp only [partB, h, he]; rfl
        by_cases h2 : (c.toNat : Int) = 46
        · rw [nameGo_point h1 h2, refName, if_pos h2, if_pos hp, ← ih (n + 1) [] rfl]; rfl
        · by_cases h3 : cls c.toNat = 3
          · rw [nameGo_digit h1 h2 h3, refName, if_neg h2]
            have := ih n (cur ++ [c]) (by rw [partGo_snoc, h]; simp [h3, he])
            rw [← this, snoc_ne]
          · rw [nameGo_no h1 h2 h3, refName, if_neg h2, refName_bad]
            rw [partGo_snoc]; simp [h1, h3]

theorem partGo_small {f : Bool} {c : UInt8} {r : List UInt8} (h : cls c.toNat = 1) : partGo f (c :: r) = partGo false r := by rw [partGo, if_pos h]
theorem partGo_first {c : UInt8} {r : List UInt8} (h : ¬ cls c.toNat = 1) : partGo true (c :: r) = false := by rw [partGo, if_neg h, if_pos rfl]
theorem partGo_digit {c : UInt8} {r : List UInt8} (h : ¬ cls c.toNat = 1) (h3 : cls c.toNat = 3) : partGo false (c :: r) = partGo false r := by rw [partGo, if_neg h, if_neg (by simp), if_pos h3]
theorem partGo_no {c : UInt8} {r : List UInt8} (h : ¬ cls c.toNat = 1) (h3 : ¬ cls c.toNat = 3) : partGo false (c :: r) = false := by rw [partGo, if_neg h, if_neg (by simp), if_neg h3]

set_option maxHeartbeats 800000 in
theorem part_any (s : ByteArray) (w : World) (hs : s.size ≤ maxLen) :
    Calls Tryz.prog 94 #[.string s] w fun e w' => e = .returned (.bool (partB s.data.toList)) ∧ w = w' := by
  unfold maxLen at hs
  go_enter Tryz.func94, Tryz.ntmps94
  go_wp2
  go_loop [3] (fun i => ∃ k : Nat, k ≤ s.size ∧ i = .int .i64 k ∧ Hid (partGo true s.data.toList = partGo (decide (k = 0)) (s.data.toList.drop k))) (fun i => s.size - (intOf i).toNat)
  case atStart => exact ⟨0, by omega, rfl, Lib.hid rfl⟩
  case round =>
    obtain ⟨k, hk, rfl, HR⟩ := hrel
    by_cases hlt : k < s.size
    · have hb := byte_le s k hlt
      have HD := Lib.hid (drop_byte s k hlt)
      have HE : Hid (decide (k + 1 = 0) = false) := Lib.hid (by simp)
      have HN : Hid (partGo true s.data.toList = false → partB s.data.toList = false) := Lib.hid (fun h => by rw [partB, h]; simp)
      by_cases c1 : cls s[k].toNat = 1
      · have d1 := ne_false c1
        have C1 := Lib.hid c1
        clear c1
        go_wp2_with (go_at_call 128; refine (refClass_any _ _).mono ?_; rintro e w' ⟨rfl, rfl⟩)
        go_round
        case rel => exact ⟨k + 1, by omega, by go_num, Lib.hid (by rw [HR.out, HD.out, partGo_small C1.out, HE.out])⟩
        case measure => simp [intOf]; omega
      have d1 := ne_true c1
      have C1 := Lib.hid c1
      clear c1
      by_cases hz : k = 0
      · have hz' : ((k : Int) == 0) = true := by simp [hz]
        have HZ : Hid (decide (k = 0) = true) := Lib.hid (by simpa using hz)
        clear hz
        go_wp2_with (go_at_call 128; refine (refClass_any _ _).mono ?_; rintro e w' ⟨rfl, rfl⟩)
        go_ret
        exact ⟨ret_bool (HN.out (by rw [HR.out, HD.out, HZ.out]; exact partGo_first C1.out)), rfl⟩
      · have hz' : ((k : Int) == 0) = false := by simp; omega
        have HZ : Hid (decide (k = 0) = false) := Lib.hid (by simpa using hz)
        clear hz
        by_cases c3 : cls s[k].toNat = 3
        · have d3 := ne_false c3
          have C3 := Lib.hid c3
          clear c3
          go_wp2_with (go_at_call 128; refine (refClass_any _ _).mono ?_; rintro e w' ⟨rfl, rfl⟩)
          go_round
          case rel => exact ⟨k + 1, by omega, by go_num, Lib.hid (by rw [HR.out, HD.out, HZ.out, partGo_digit C1.out C3.out, HE.out])⟩
          case measure => simp [intOf]; omega
        · have d3 := ne_true c3
          have C3 := Lib.hid c3
          clear c3
          go_wp2_with (go_at_call 128; refine (refClass_any _ _).mono ?_; rintro e w' ⟨rfl, rfl⟩)
          go_ret
          exact ⟨ret_bool (HN.out (by rw [HR.out, HD.out, HZ.out]; exact partGo_no C1.out C3.out)), rfl⟩
    · have HE : Hid (partB s.data.toList = !s.data.toList.isEmpty) := Lib.hid (by rw [partB, HR.out, List.drop_eq_nil_of_le (by simp; omega)]; simp [partGo])
      go_wp2
      all_goals
        go_ret
        exact ⟨ret_bool (by rw [HE.out]; simp_all [Lib.toList_data]), rfl⟩

theorem nameB_ref (l : List UInt8) : nameB l = (refName 1 [] l && decide (l.length ≤ 32)) := by
  rw [nameB, ← nameGo_ref l 1 [] rfl, Bool.and_comm]; rfl
theorem refName_step {n : Nat} {cur : List UInt8} {c : UInt8} {r : List UInt8} (h : ¬ (c.toNat : Int) = 46) : refName n cur (c :: r) = refName n (cur ++ [c]) r := by rw [refName, if_neg h]
theorem refName_point {n : Nat} {cur : List UInt8} {c : UInt8} {r : List UInt8} (h : (c.toNat : Int) = 46) (hp : partB cur = true) : refName n cur (c :: r) = refName (n + 1) [] r := by rw [refName, if_pos h, if_pos hp]
theorem refName_no {n : Nat} {cur : List UInt8} {c : UInt8} {r : List UInt8} (h : (c.toNat : Int) = 46) (hp : partB cur = false) : refName n cur (c :: r) = false := by rw [refName, if_pos h, hp]; simp
theorem cut_step (s : ByteArray) (f k : Nat) (hf : f ≤ k) (hk : k < s.size) : (s.data.toList.drop f).take (k - f) ++ [s[k]] = (s.data.toList.drop f).take (k + 1 - f) := by
  rw [show k + 1 - f = (k - f) + 1 from by omega, List.take_succ_eq_append_getElem (by simp; omega)]
  congr 2
  simp only [List.getElem_drop, show f + (k - f) = k from by omega]
  rfl

set_option maxHeartbeats 800000 in
theorem refIsName_any (s : ByteArray) (w : World) (hs : s.size ≤ 4294967296) :
    Calls Tryz.prog 59 #[.string s] w fun e w' => e = .returned (.bool (nameB s.data.toList)) ∧ w = w' := by
  have HF := Lib.hid (nameB_ref s.data.toList)
  go_enter Tryz.func59, Tryz.ntmps59
  go_wp2
  go_loop [3, 4, 5] (fun p q i => ∃ (k f n : Nat), f ≤ k ∧ k ≤ s.size ∧ n ≤ k + 1 ∧ p = .int .i64 n ∧ q = .int .i64 f ∧ i = .int .i64 k ∧ Hid (refName 1 [] s.data.toList = refName n ((s.data.toList.drop f).take (k - f)) (s.data.toList.drop k))) (fun _ _ i => s.size - (intOf i).toNat)
  case atStart => exact ⟨0, 0, 1, by omega, by omega, by omega, rfl, rfl, rfl, Lib.hid rfl⟩
  case round =>
    obtain ⟨k, f, n, hf, hk, hn, rfl, rfl, rfl, HR⟩ := hrel
    by_cases hlt : k < s.size
    · have hb := byte_le s k hlt
      have HD := Lib.hid (drop_byte s k hlt)
      by_cases c2 : (s[k].toNat : Int) = 46
      · have d2 : ((s[k].toNat : Int) == 46) = true := beq_iff_eq.2 c2
        have C2 := Lib.hid c2
        clear c2
        have HX := Lib.hid (Lib.extract_data s f k)
        go_wp2_with fail
        refine (part_any _ _ (by simp [maxLen]; omega)).mono ?_
        rintro e w' ⟨rfl, rfl⟩
        rw [HX.out]
        rcases Bool.eq_false_or_eq_true (partB ((s.data.toList.drop f).take (k - f))) with hp | hp
        · have HP := Lib.hid hp
          rw [hp]
          clear hp
          go_wp2
          go_round
          case rel => exact ⟨k + 1, k + 1, n + 1, by omega, by omega, by omega, by go_num, by go_num, by go_num, Lib.hid (by rw [HR.out, HD.out, refName_point C2.out HP.out]; simp)⟩
          case measure => simp [intOf]; omega
        · have HP := Lib.hid hp
          rw [hp]
          clear hp
          go_wp2
          go_ret
          exact ⟨ret_bool (by rw [HF.out, HR.out, HD.out, refName_no C2.out HP.out]; rfl), rfl⟩
      · have d2 : ((s[k].toNat : Int) == 46) = false := beq_eq_false_iff_ne.2 c2
        have C2 := Lib.hid c2
        clear c2
        have HC := Lib.hid (cut_step s f k hf hlt)
        go_wp2
        go_round
        case rel => exact ⟨k + 1, f, n, by omega, by omega, by omega, rfl, rfl, by go_num, Lib.hid (by rw [HR.out, HD.out, refName_step C2.out, HC.out])⟩
        case measure => simp [intOf]; omega
    · have hk' : k = s.size := by omega
      have HX : Hid ((s.extract f s.size).data.toList = (s.data.toList.drop f).take (k - f)) := Lib.hid (by rw [Lib.extract_data, hk'])
      have HE : Hid (refName n ((s.data.toList.drop f).take (k - f)) (s.data.toList.drop k) = (partB ((s.data.toList.drop f).take (k - f)) && decide (n ≤ 3))) := Lib.hid (by
        rw [show s.data.toList.drop k = [] from List.drop_eq_nil_of_le (by simp; omega)]; rfl)
      have HL : Hid (decide (s.data.toList.length ≤ 32) = decide (s.size ≤ 32)) := Lib.hid (by simp)
      clear hk'
      go_wp2_with fail
      refine (part_any _ _ (by simp [maxLen]; omega)).mono ?_
      rintro e w' ⟨rfl, rfl⟩
      rw [HX.out]
      rcases Bool.eq_false_or_eq_true (partB ((s.data.toList.drop f).take (k - f))) with hp | hp
      · have HP := Lib.hid hp
        rw [hp]
        clear hp
        by_cases h3 : n ≤ 3
        · by_cases h4 : s.size ≤ 32
          · go_wp2
            go_ret
            exact ⟨ret_bool (by rw [HF.out, HR.out, HE.out, HP.out, HL.out]; simp [h3, h4]; omega), rfl⟩
          · go_wp2
            go_ret
            exact ⟨ret_bool (by rw [HF.out, HR.out, HE.out, HP.out, HL.out]; simp [h3, h4]; omega), rfl⟩
        · go_wp2
          go_ret
          exact ⟨ret_bool (by rw [HF.out, HR.out, HE.out, HP.out, HL.out]; simp [h3]), rfl⟩
      · have HP := Lib.hid hp
        rw [hp]
        clear hp
        go_wp2
        go_ret
        exact ⟨ret_bool (by rw [HF.out, HR.out, HE.out, HP.out, HL.out]; rfl), rfl⟩
end Go.Proofs.YtopghlnoklajkaaGreatDoor

namespace Go.Proofs.YtopghlnoklajkaaGreatDoor

theorem indexD_cons (d c : UInt8) (l : List UInt8) : Lib.index (c :: l) [d] = if c = d then 0 else if Lib.index l [d] = -1 then -1 else Lib.index l [d] + 1 := by
  by_cases h : c = d
  · subst h; rw [Lib.index]; simp [List.isPrefixOf]
  · have hp : ([d] : List UInt8).isPrefixOf (c :: l) = false := by simp [List.isPrefixOf, Ne.symm h]
    rw [Lib.index, hp, if_neg h]; simp
def upTo (d : UInt8) (l : List UInt8) : List UInt8 := l.takeWhile (· != d)
def after (d : UInt8) (l : List UInt8) : List UInt8 := (l.dropWhile (· != d)).drop 1
theorem upTo_cons {d c : UInt8} {r : List UInt8} (h : c ≠ d) : upTo d (c :: r) = c :: upTo d r := by
  unfold upTo
  rw [List.takeWhile_cons, if_pos (by simpa using h)]
theorem upTo_sep (d : UInt8) (r : List UInt8) : upTo d (d :: r) = [] := by unfold upTo; simp
theorem after_cons {d c : UInt8} {r : List UInt8} (h : c ≠ d) : after d (c :: r) = after d r := by
  unfold after
  rw [List.dropWhile_cons, if_pos (by simpa using h)]
theorem after_sep (d : UInt8) (r : List UInt8) : after d (d :: r) = r := by unfold after; simp
theorem has_cons {d c : UInt8} {r : List UInt8} (h : c ≠ d) : (c :: r).contains d = r.contains d := by
  have : (d == c) = false := by simpa using fun e => h e.symm
  rw [List.contains_cons, this, Bool.false_or]
theorem index_is (d : UInt8) (l : List UInt8) : Lib.index l [d] = if l.contains d then ((upTo d l).length : Int) else -1 := by
  induction l with
  | nil => rfl
  | cons c r ih =>
    rw [indexD_cons]
    by_cases h : c = d
    · subst h
      rw [if_pos rfl, upTo_sep, if_pos (by simp)]; rfl
    · rw [if_neg h, has_cons h, upTo_cons h, ih]
      by_cases hc : r.contains d = true
      · rw [if_pos hc, if_pos hc, if_neg (by omega), List.length_cons]; omega
      · rw [if_neg hc, if_neg hc, if_pos rfl]
theorem whole_is (d : UInt8) (l : List UInt8) (h : l.contains d = true) : l = upTo d l ++ d :: after d l := by
  induction l with
  | nil => simp at h
  | cons c r ih =>
    by_cases e : c = d
    · subst e; rw [upTo_sep, after_sep]; rfl
    · rw [has_cons e] at h
      rw [upTo_cons e, after_cons e, List.cons_append, ← ih h]
theorem upTo_none {d : UInt8} {l : List UInt8} (h : l.contains d = false) : upTo d l = l := by
  induction l with
  | nil => rfl
  | cons c r ih =>
    have e : c ≠ d := fun e => by subst e; simp at h
    rw [has_cons e] at h
    rw [upTo_cons e, ih h]
theorem cut_is (d : UInt8) (l : List UInt8) : Lib.cut l [d] = if l.contains d then (upTo d l, after d l, true) else (l, [], false) := by
  unfold Lib.cut
  rw [index_is]
  by_cases h : l.contains d = true
  · rw [if_pos h, if_pos h, if_pos (by omega)]
    have hw := whole_is d l h
    have e : (((upTo d l).length : Int)).toNat = (upTo d l).length := by omega
    rw [e]
    generalize upTo d l = a at *
    generalize after d l = b at *
    subst hw
    simp [List.drop_append]
  · rw [if_neg h, if_neg h, if_neg (by omega)]
theorem contains_no {d : UInt8} {l : List UInt8} (h : ∀ c ∈ l, c ≠ d) : l.contains d = false := by
  cases hc : l.contains d with
  | false => rfl
  | true => exact absurd rfl (h d (List.contains_iff_mem.1 hc))
theorem upTo_at {d : UInt8} {a b : List UInt8} (h : a.contains d = false) : upTo d (a ++ d :: b) = a ∧ after d (a ++ d :: b) = b ∧ (a ++ d :: b).contains d = true := by
  induction a with
  | nil => exact ⟨upTo_sep _ _, after_sep _ _, by simp⟩
  | cons c r ih =>
    have e : c ≠ d := fun e => by subst e; simp at h
    rw [has_cons e] at h
    obtain ⟨h1, h2, h3⟩ := ih h
    exact ⟨by rw [List.cons_append, upTo_cons e, h1], by rw [List.cons_append, after_cons e, h2], by rw [List.cons_append, has_cons e, h3]⟩
theorem upTo_hit {d : UInt8} {l : List UInt8} {k : Nat} (hk : k < l.length) (h : (l.take k).contains d = false) (he : l[k] = d) : upTo d l = l.take k ∧ after d l = l.drop (k + 1) ∧ l.contains d = true := by
  have hw : l = l.take k ++ d :: l.drop (k + 1) := by
    conv => lhs; rw [← List.take_append_drop k l, List.drop_eq_getElem_cons hk, he]
  obtain ⟨h1, h2, h3⟩ := upTo_at (b := l.drop (k + 1)) h
  rw [← hw] at h1 h2 h3
  exact ⟨h1, h2, h3⟩
theorem no_next {d : UInt8} {l : List UInt8} {k : Nat} (hk : k < l.length) (h : (l.take k).contains d = false) (he : l[k] ≠ d) : (l.take (k + 1)).contains d = false := by
  rw [List.take_succ_eq_append_getElem hk]
  refine contains_no fun c hc => ?_
  rcases List.mem_append.1 hc with hc | hc
  · intro e; subst e; rw [List.contains_iff_mem.2 hc] at h; cases h
  · rw [List.mem_singleton.1 hc]; exact he
theorem list_at (s : ByteArray) (k : Nat) (h : k < s.size) : s.data.toList[k]'(by simpa using h) = s[k] := by simp [ByteArray.getElem_eq_getElem_data]
end Go.Proofs.YtopghlnoklajkaaGreatDoor

namespace Go.Proofs.YtopghlnoklajkaaGreatDoor

/-- Bytes that stand for themselves, or the name of a setting. -/
abbrev PcB := List UInt8 × Bool
def scanP : Nat → List UInt8 → List UInt8 → List PcB → Option (List PcB)
  | 0, _, b, l => some (l ++ [(b, false)])
  | _ + 1, [], b, l => some (l ++ [(b, false)])
  | f + 1, c :: r, b, l =>
    if c = 36 then
      match r with
      | [] => none
      | d :: r' =>
        if d = 36 then scanP f r' (b ++ [36]) l
        else if d = 123 then
          if r'.contains 125 = true ∧ nameB (upTo 125 r') = true then scanP f (after 125 r') [] (l ++ [(b, false), (upTo 125 r', true)]) else none
        else none
    else scanP f r (b ++ [c]) l
theorem after_len (d : UInt8) (l : List UInt8) : (after d l).length ≤ l.length := by
  unfold after
  rw [List.length_drop]
  have := (List.dropWhile_sublist (· != d) (l := l)).length_le
  omega
theorem scanP_more : ∀ (f : Nat) (r b : List UInt8) (l : List PcB), r.length ≤ f → ∀ g, f ≤ g → scanP g r b l = scanP f r b l := by
  intro f
  induction f with
  | zero =>
    intro r b l hr g hg
    have : r = [] := List.eq_nil_of_length_eq_zero (by omega)
    subst this
    cases g <;> rfl
  | succ f ih =>
    intro r b l hr g hg
    obtain ⟨g, rfl⟩ : ∃ g', g = g' + 1 := ⟨g - 1, by omega⟩
    cases r with
    | nil => rfl
    | cons c r =>
      rw [List.length_cons] at hr
      unfold scanP
      by_cases hc : c = 36
      · rw [if_pos hc, if_pos hc]
        cases r with
        | nil => rfl
        | cons d r' =>
          rw [List.length_cons] at hr
          simp only
          split
          · exact ih _ _ _ (by omega) _ (by omega)
          · split
            · split
              · exact ih _ _ _ (by have := after_len 125 r'; omega) _ (by omega)
              · rfl
            · rfl
      · rw [if_neg hc, if_neg hc]
        exact ih _ _ _ (by omega) _ (by omega)
/-- What is left of a text, behind what is read. -/
def scanB (r b : List UInt8) (l : List PcB) : Option (List PcB) := scanP r.length r b l
theorem scanB_nil (b : List UInt8) (l : List PcB) : scanB [] b l = some (l ++ [(b, false)]) := rfl
theorem scanB_byte {c : UInt8} (h : c ≠ 36) (r b : List UInt8) (l : List PcB) : scanB (c :: r) b l = scanB r (b ++ [c]) l := by
  unfold scanB
  rw [List.length_cons]
  conv => lhs; unfold scanP
  rw [if_neg h]
theorem scanB_end (b : List UInt8) (l : List PcB) : scanB [36] b l = none := rfl
theorem scanB_two (r b : List UInt8) (l : List PcB) : scanB (36 :: 36 :: r) b l = scanB r (b ++ [36]) l := by
  unfold scanB
  rw [List.length_cons, List.length_cons]
  conv => lhs; unfold scanP
  rw [if_pos rfl]
  simp only
  first | rw [if_pos trivial] | rw [if_pos rfl]
  exact scanP_more _ _ _ _ (Nat.le_refl _) _ (by omega)
theorem scanB_bad {d : UInt8} (h1 : d ≠ 36) (h2 : d ≠ 123) (r b : List UInt8) (l : List PcB) : scanB (36 :: d :: r) b l = none := by
  unfold scanB
  rw [List.length_cons]
  conv => lhs; unfold scanP
  rw [if_pos rfl]
  simp only
  rw [if_neg h1, if_neg h2]
theorem scanB_open {r : List UInt8} (h : r.contains 125 = false) (b : List UInt8) (l : List PcB) : scanB (36 :: 123 :: r) b l = none := by
  unfold scanB
  rw [List.length_cons]
  conv => lhs; unfold scanP
  rw [if_pos rfl]
  simp only
  first | rw [if_neg (by decide), if_pos trivial] | rw [if_neg (by decide), if_pos rfl] | rw [if_neg id, if_pos trivial]
  rw [if_neg (by rw [h]; simp)]
theorem scanB_no {r : List UInt8} (h : nameB (upTo 125 r) = false) (b : List UInt8) (l : List PcB) : scanB (36 :: 123 :: r) b l = none := by
  unfold scanB
  rw [List.length_cons]
  conv => lhs; unfold scanP
  rw [if_pos rfl]
  simp only
  first | rw [if_neg (by decide), if_pos trivial] | rw [if_neg (by decide), if_pos rfl] | rw [if_neg id, if_pos trivial]
  rw [if_neg (by rw [h]; simp)]
theorem scanB_ref {r : List UInt8} (h : r.contains 125 = true) (h2 : nameB (upTo 125 r) = true) (b : List UInt8) (l : List PcB) : scanB (36 :: 123 :: r) b l = scanB (after 125 r) [] (l ++ [(b, false), (upTo 125 r, true)]) := by
  unfold scanB
  rw [List.length_cons, List.length_cons]
  conv => lhs; unfold scanP
  rw [if_pos rfl]
  simp only
  first | rw [if_neg (by decide), if_pos trivial] | rw [if_neg (by decide), if_pos rfl] | rw [if_neg id, if_pos trivial]
  rw [if_pos ⟨h, h2⟩]
  exact scanP_more _ _ _ _ (Nat.le_refl _) _ (by have := after_len 125 r; omega)
/-- The pieces of a text; none: it is not well formed. -/
def piecesB (s : List UInt8) : Option (List PcB) := scanB s [] []
/-- One more name, if it is not there. -/
def addN (out : List (List UInt8)) (n : List UInt8) : List (List UInt8) := if out.contains n = true then out else out ++ [n]
def nameStep (out : List (List UInt8)) (p : PcB) : List (List UInt8) := if p.2 = true then addN out p.1 else out
/-- The names that pieces speak of, each once, as they first stand. -/
def namesL (l : List PcB) : List (List UInt8) := l.foldl nameStep []
/-- What chapter 10's Names answers. -/
def namesB (s : List UInt8) : List (List UInt8) × Int :=
  match piecesB s with
  | none => ([], 100)
  | some l => (namesL l, 0)
theorem namesL_take (l : List PcB) (k : Nat) (h : k < l.length) : namesL (l.take (k + 1)) = nameStep (namesL (l.take k)) l[k] := by
  unfold namesL
  rw [List.take_succ_eq_append_getElem h, List.foldl_append]
  rfl
theorem addN_len (out : List (List UInt8)) (n : List UInt8) : (addN out n).length ≤ out.length + 1 := by
  unfold addN
  split
  · omega
  · simp
theorem namesL_len (l : List PcB) : (namesL l).length ≤ l.length := by
  suffices h : ∀ out, (l.foldl nameStep out).length ≤ out.length + l.length by simpa [namesL] using h []
  induction l with
  | nil => intro out; simp
  | cons p r ih =>
    intro out
    rw [List.foldl_cons, List.length_cons]
    refine Nat.le_trans (ih _) ?_
    unfold nameStep
    split
    · have := addN_len out p.1; omega
    · omega
/-- The bound of how many pieces there are. -/
theorem scanP_len : ∀ (f : Nat) (r b : List UInt8) (l out : List PcB), scanP f r b l = some out → out.length ≤ l.length + r.length + 1 := by
  intro f
  induction f with
  | zero => intro r b l out h; have := Option.some.inj h; rw [← this]; simp
  | succ f ih =>
    intro r b l out h
    cases r with
    | nil => have := Option.some.inj h; rw [← this]; simp
    | cons c r =>
      unfold scanP at h
      rw [List.length_cons]
      split at h
      · cases r with
        | nil => cases h
        | cons d r' =>
          rw [List.length_cons]
          simp only at h
          split at h
          · have := ih _ _ _ _ h; omega
          · split at h
            · split at h
              · have h1 := ih _ _ _ _ h
                rw [List.length_append, List.length_cons, List.length_singleton] at h1
                have h2 : (after 125 r').length + 1 ≤ r'.length := by
                  rename_i hx
                  have hw := congrArg List.length (whole_is 125 r' hx.1)
                  rw [List.length_append, List.length_cons] at hw
                  omega
                omega
              · cases h
            · cases h
      · have := ih _ _ _ _ h; omega
theorem pieces_len {s : List UInt8} {l : List PcB} (h : piecesB s = some l) : l.length ≤ s.length + 1 := by
  have := scanP_len _ _ _ _ _ h
  simpa using this
end Go.Proofs.YtopghlnoklajkaaGreatDoor
