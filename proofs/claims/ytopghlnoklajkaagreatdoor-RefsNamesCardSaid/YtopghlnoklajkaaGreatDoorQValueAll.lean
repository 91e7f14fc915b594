/-
  ValueTexts, ValueAll.
-/
import Derived.Test.YtopghlnoklajkaaGreatDoorQValuePrint
namespace Go.Proofs.YtopghlnoklajkaaGreatDoor

/-! Numerals -/
theorem isD_digit {d : Nat} (h : d < 10) : isD (UInt8.ofNat (48 + d)) = true := by
  have : ∀ d : Fin 10, isD (UInt8.ofNat (48 + d.val)) = true := by decide
  exact this ⟨d, h⟩
theorem digit_val {d : Nat} (h : d < 10) : (UInt8.ofNat (48 + d)).toNat - 48 = d := by
  have : ∀ d : Fin 10, (UInt8.ofNat (48 + d.val)).toNat - 48 = d.val := by decide
  exact this ⟨d, h⟩
theorem digit_of {c : UInt8} (h : isD c = true) : UInt8.ofNat (48 + (c.toNat - 48)) = c := by
  have hb : 48 ≤ c.toNat ∧ c.toNat ≤ 57 := by simpa [isD] using h
  rw [show 48 + (c.toNat - 48) = c.toNat by omega]; simp
theorem dec_snoc (l : List UInt8) (c : UInt8) : dec (l ++ [c]) = dec l * 10 + (c.toNat - 48) := by
  unfold dec; rw [decAcc_append, decAcc_cons, decAcc_nil, decS_eq]
theorem digits_small {u : Nat} (h : u < 10) : Lib.decDigits u = [UInt8.ofNat (48 + u)] := Lib.decDigits_one h
theorem digits_big {u : Nat} (h : ¬ u < 10) : Lib.decDigits u = Lib.decDigits (u / 10) ++ [UInt8.ofNat (48 + u % 10)] := by rw [Lib.decDigits, dif_neg h]
theorem dec_digits (u : Nat) : dec (Lib.decDigits u) = u := by
  induction u using Nat.strongRecOn with
  | _ u ih =>
    by_cases h : u < 10
    · rw [digits_small h, show [UInt8.ofNat (48 + u)] = [] ++ [UInt8.ofNat (48 + u)] from rfl, dec_snoc, digit_val h]
      unfold dec; rw [decAcc_nil]; omega
    · rw [digits_big h, dec_snoc, ih _ (by omega), digit_val (by omega)]; omega
theorem digits_all (u : Nat) : (Lib.decDigits u).all isD = true := by
  induction u using Nat.strongRecOn with
  | _ u ih =>
    by_cases h : u < 10
    · rw [digits_small h, List.all_cons, isD_digit h]; rfl
    · rw [digits_big h, List.all_append, ih _ (by omega), List.all_cons, isD_digit (show u % 10 < 10 by omega)]; rfl
/-- A numeral's first digit is no 0, but of 0. -/
theorem digits_head (u : Nat) (h : 1 ≤ u) : ∃ c r, Lib.decDigits u = c :: r ∧ c ≠ 48 := by
  induction u using Nat.strongRecOn with
  | _ u ih =>
    by_cases hu : u < 10
    · refine ⟨_, [], digits_small hu, ?_⟩
      have : ∀ d : Fin 10, 1 ≤ d.val → UInt8.ofNat (48 + d.val) ≠ 48 := by decide
      exact this ⟨u, hu⟩ h
    · obtain ⟨c, r, e, hc⟩ := ih (u / 10) (by omega) (by omega)
      exact ⟨c, r ++ [_], by rw [digits_big hu, e]; rfl, hc⟩
theorem digits_ok (u : Nat) : numOk (Lib.decDigits u) = true := by
  unfold numOk
  rw [digits_all]
  by_cases h : u = 0
  · subst h; rw [digits_small (by decide)]; rfl
  · obtain ⟨c, r, e, hc⟩ := digits_head u (by omega)
    rw [e]; simp [hc]
theorem numOk_ne {l : List UInt8} (h : numOk l = true) : l ≠ [] := by
  rintro rfl; cases h
theorem dec_pos {c : UInt8} {r : List UInt8} (hd : isD c = true) (hc : c ≠ 48) : 1 ≤ dec (c :: r) := by
  have hb : 48 ≤ c.toNat ∧ c.toNat ≤ 57 := by simpa [isD] using hd
  have hn : c.toNat ≠ 48 := fun e => hc (UInt8.toNat_inj.1 e)
  unfold dec; rw [decAcc_cons, decS_eq]
  have := decAcc_ge (0 * 10 + (c.toNat - 48)) r
  omega
theorem numOk_iff' (c : UInt8) (r : List UInt8) : numOk (c :: r) = true ↔ (c :: r).all isD = true ∧ (c ≠ 48 ∨ r = []) := by
  rw [numOk_iff]; simp [List.isEmpty_iff]
/-- A number's text is the numeral of what it says. -/
theorem digits_dec : ∀ (n : Nat) (l : List UInt8), l.length = n → numOk l = true → Lib.decDigits (dec l) = l := by
  intro n
  induction n with
  | zero => intro l hl h; exact absurd (List.eq_nil_of_length_eq_zero hl) (numOk_ne h)
  | succ n ih =>
    intro l hl h
    obtain ⟨l', c, rfl⟩ : ∃ l' c, l = l' ++ [c] := ⟨l.dropLast, l.getLast (by intro e; rw [e] at hl; cases hl), (List.dropLast_concat_getLast _).symm⟩
    have hall := numOk_all h
    simp only [List.all_append, List.all_cons, List.all_nil, Bool.and_true, Bool.and_eq_true] at hall
    have hb : 48 ≤ c.toNat ∧ c.toNat ≤ 57 := by simpa [isD] using hall.2
    rw [dec_snoc]
    cases l' with
    | nil =>
      have : dec [] = 0 := by unfold dec; rw [decAcc_nil]
      rw [this, digits_small (by omega), show 48 + (0 * 10 + (c.toNat - 48)) = 48 + (c.toNat - 48) by omega, digit_of hall.2]; rfl
    | cons a r =>
      rw [List.cons_append, numOk_iff'] at h
      have ha : a ≠ 48 := by rcases h.2 with h2 | h2; exact h2; simp at h2
      have hda : isD a = true := by have := hall.1; simp only [List.all_cons, Bool.and_eq_true] at this; exact this.1
      have hp := dec_pos (r := r) hda ha
      have h' : numOk (a :: r) = true := (numOk_iff' a r).2 ⟨hall.1, Or.inl ha⟩
      have hi := ih (a :: r) (by simpa using hl) h'
      rw [digits_big (by omega), show (dec (a :: r) * 10 + (c.toNat - 48)) / 10 = dec (a :: r) by omega, show (dec (a :: r) * 10 + (c.toNat - 48)) % 10 = c.toNat - 48 by omega, hi, digit_of hall.2]
theorem numeral_of {l : List UInt8} (h : numOk l = true) : Lib.decDigits (dec l) = l := digits_dec _ l rfl h
theorem neg_digits (u : Nat) : negOf (Lib.decDigits u) = false := by
  have ha := digits_all u
  cases h : Lib.decDigits u with
  | nil => rfl
  | cons c r =>
    rw [h] at ha
    simp only [List.all_cons, Bool.and_eq_true] at ha
    have hb : 48 ≤ c.toNat ∧ c.toNat ≤ 57 := by simpa [isD] using ha.1
    have : c ≠ 45 := by rintro rfl; revert hb; decide
    simp [negOf, this]
theorem unsg_digits (u : Nat) : unsg (Lib.decDigits u) = Lib.decDigits u := by unfold unsg; rw [neg_digits]; rfl

/-! Int -/
theorem whole_itoa (n : Int) (h0 : -4611686018427387904 ≤ n) (h1 : n ≤ 4611686018427387904) : wholeV (Lib.itoa n) = (n, 0) := by
  unfold Lib.itoa
  by_cases hn : n < 0
  · rw [if_pos hn]
    have e1 : negOf (45 :: Lib.decDigits n.natAbs) = true := rfl
    have e2 : unsg (45 :: Lib.decDigits n.natAbs) = Lib.decDigits n.natAbs := rfl
    unfold wholeV
    rw [e1, e2, dec_digits, digits_ok, if_neg (by rintro (h | h); cases h; omega), if_neg (by omega), if_pos rfl]
    congr 1; omega
  · rw [if_neg hn]
    unfold wholeV
    rw [neg_digits, unsg_digits, dec_digits, digits_ok, if_neg (by rintro (h | h); cases h; cases h.1), if_neg (by omega), if_neg (by decide)]
    congr 1; omega
theorem whole_cases {s : List UInt8} (h : (wholeV s).2 = 0) : numOk (unsg s) = true ∧ ¬ (negOf s = true ∧ dec (unsg s) = 0) ∧ dec (unsg s) ≤ 4611686018427387904 ∧ (wholeV s).1 = if negOf s then -(dec (unsg s) : Int) else (dec (unsg s) : Int) := by
  unfold wholeV at h ⊢
  by_cases h1 : numOk (unsg s) = false ∨ (negOf s = true ∧ dec (unsg s) = 0)
  · rw [if_pos h1] at h; cases h
  rw [if_neg h1] at h ⊢
  by_cases h2 : 4611686018427387904 < dec (unsg s)
  · rw [if_pos h2] at h; cases h
  rw [if_neg h2]
  exact ⟨by cases hq : numOk (unsg s) with
    | true => rfl
    | false => exact absurd (Or.inl hq) h1, fun hh => h1 (Or.inr hh), by omega, rfl⟩
theorem whole_bd {s : List UInt8} (h : (wholeV s).2 = 0) : -4611686018427387904 ≤ (wholeV s).1 ∧ (wholeV s).1 ≤ 4611686018427387904 := by
  obtain ⟨_, _, h2, h3⟩ := whole_cases h
  rw [h3]; split <;> omega
theorem whole_text {s : List UInt8} (h : (wholeV s).2 = 0) : Lib.itoa (wholeV s).1 = s := by
  obtain ⟨h0, h1, h2, h3⟩ := whole_cases h
  rw [h3]
  have hn := numeral_of h0
  cases hg : negOf s with
  | true =>
    have hd : ¬ dec (unsg s) = 0 := fun e => h1 ⟨hg, e⟩
    have hs : s = 45 :: unsg s := by
      cases s with
      | nil => cases hg
      | cons c r =>
        have : c = 45 := by simpa [negOf] using hg
        subst this; rfl
    rw [if_pos rfl]
    unfold Lib.itoa
    rw [if_pos (by omega), show (-(dec (unsg s) : Int)).natAbs = dec (unsg s) by omega, hn]
    exact hs.symm
  | false =>
    have hs : unsg s = s := by unfold unsg; rw [hg]; rfl
    rw [if_neg (by decide)]
    unfold Lib.itoa
    rw [if_neg (by omega), show ((dec (unsg s) : Int)).toNat = dec (unsg s) by omega, hn, hs]

/-! Size and Span -/
theorem unitFor_facts (k n : Int) (hk : k = 3 ∨ k = 4) : unitV k (unitFor k n).2 = (unitFor k n).1 ∧ n % (unitFor k n).1 = 0 ∧ (∀ c r, (unitFor k n).2 = c :: r → isD c = false) ∧ (k = 4 → (unitFor k n).2 ≠ []) := by
  rcases hk with rfl | rfl
  · by_cases h1 : 0 < n ∧ n % 1073741824 = 0
    · have e : unitFor 3 n = (1073741824, [103]) := by unfold unitFor; rw [if_pos rfl, if_pos h1]
      rw [e]; exact ⟨by decide, h1.2, fun c r h => by cases h; decide, fun h => by cases h⟩
    by_cases h2 : 0 < n ∧ n % 1048576 = 0
    · have e : unitFor 3 n = (1048576, [109]) := by unfold unitFor; rw [if_pos rfl, if_neg h1, if_pos h2]
      rw [e]; exact ⟨by decide, h2.2, fun c r h => by cases h; decide, fun h => by cases h⟩
    by_cases h3 : 0 < n ∧ n % 1024 = 0
    · have e : unitFor 3 n = (1024, [107]) := by unfold unitFor; rw [if_pos rfl, if_neg h1, if_neg h2, if_pos h3]
      rw [e]; exact ⟨by decide, h3.2, fun c r h => by cases h; decide, fun h => by cases h⟩
    · have e : unitFor 3 n = (1, []) := by unfold unitFor; rw [if_pos rfl, if_neg h1, if_neg h2, if_neg h3]
      rw [e]; exact ⟨by decide, Int.emod_one n, fun c r h => (by cases h), fun h => by cases h⟩
  · by_cases h1 : 0 < n ∧ n % 86400 = 0
    · have e : unitFor 4 n = (86400, [100]) := by unfold unitFor; rw [if_neg (by decide), if_pos h1]
      rw [e]; exact ⟨by decide, h1.2, fun c r h => by cases h; decide, fun _ h => by cases h⟩
    by_cases h2 : 0 < n ∧ n % 3600 = 0
    · have e : unitFor 4 n = (3600, [104]) := by unfold unitFor; rw [if_neg (by decide), if_neg h1, if_pos h2]
      rw [e]; exact ⟨by decide, h2.2, fun c r h => by cases h; decide, fun _ h => by cases h⟩
    by_cases h3 : 0 < n ∧ n % 60 = 0
    · have e : unitFor 4 n = (60, [109]) := by unfold unitFor; rw [if_neg (by decide), if_neg h1, if_neg h2, if_pos h3]
      rw [e]; exact ⟨by decide, h3.2, fun c r h => by cases h; decide, fun _ h => by cases h⟩
    · have e : unitFor 4 n = (1, [115]) := by unfold unitFor; rw [if_neg (by decide), if_neg h1, if_neg h2, if_neg h3]
      rw [e]; exact ⟨by decide, Int.emod_one n, fun c r h => by cases h; decide, fun _ h => by cases h⟩
theorem while_append {D U : List UInt8} (hD : D.all isD = true) (hU : ∀ c r, U = c :: r → isD c = false) : (D ++ U).takeWhile isD = D ∧ (D ++ U).dropWhile isD = U := by
  induction D with
  | nil =>
    cases U with
    | nil => exact ⟨rfl, rfl⟩
    | cons c r => have := hU c r rfl; exact ⟨by simp [this], by simp [this]⟩
  | cons c r ih =>
    simp only [List.all_cons, Bool.and_eq_true] at hD
    obtain ⟨h1, h2⟩ := ih hD.2
    exact ⟨by rw [List.cons_append, takeWhile_cons_yes hD.1, h1], by rw [List.cons_append]; simp [List.dropWhile, hD.1, h2]⟩
theorem most_bd (k : Int) : 0 ≤ mostV k := by
  unfold mostV; repeat' split
  all_goals omega
theorem united_print (k n : Int) (hk : k = 3 ∨ k = 4) (h0 : 0 ≤ n) (h1 : n ≤ mostV k) : unitedV k (Lib.itoa (n / (unitFor k n).1) ++ (unitFor k n).2) = (n, 0) := by
  obtain ⟨f1, f2, f3, f4⟩ := unitFor_facts k n hk
  have hp := unitFor_pos k n
  obtain ⟨⟨u, U⟩, hu⟩ : ∃ u, unitFor k n = u := ⟨_, rfl⟩
  rw [hu] at f1 f2 f3 f4 hp ⊢
  simp only at f1 f2 f3 f4 hp ⊢
  have hq : 0 ≤ n / u := Int.ediv_nonneg h0 (by omega)
  have hi : Lib.itoa (n / u) = Lib.decDigits (n / u).toNat := by unfold Lib.itoa; rw [if_neg (by omega)]
  rw [hi]
  obtain ⟨w1, w2⟩ := while_append (digits_all (n / u).toNat) f3
  have hs : spanU k (Lib.decDigits (n / u).toNat ++ U) = u := by
    unfold spanU
    rw [w2, f1, if_neg]
    rintro ⟨h4, he⟩
    have hn := numOk_ne (digits_ok (n / u).toNat)
    have hl := congrArg List.length he
    rw [List.length_append] at hl
    have hU := f4 h4
    have p1 := List.length_pos_iff.2 hn
    have p2 := List.length_pos_iff.2 hU
    simp at hl; omega
  unfold unitedV
  rw [w1, hs, digits_ok, dec_digits, if_neg (by rintro (h | h); cases h; omega)]
  have hle : n / u ≤ mostV k / u := Int.ediv_le_ediv (by omega) h1
  have hc : ((n / u).toNat : Int) = n / u := Int.toNat_of_nonneg hq
  rw [hc, if_neg (by omega)]
  congr 1
  have := Int.mul_ediv_add_emod n u
  rw [f2, Int.add_zero] at this
  rw [Int.mul_comm]; exact this
theorem united_bd {k : Int} {s : List UInt8} (h : (unitedV k s).2 = 0) : 0 ≤ (unitedV k s).1 ∧ (unitedV k s).1 ≤ mostV k := by
  unfold unitedV at h ⊢
  have hu := unit_bd k (s.dropWhile isD)
  have hs : 0 ≤ spanU k s := by unfold spanU; split <;> omega
  by_cases h1 : numOk (s.takeWhile isD) = false ∨ spanU k s = 0
  · rw [if_pos h1] at h; cases h
  rw [if_neg h1] at h ⊢
  by_cases h2 : mostV k / spanU k s < dec (s.takeWhile isD)
  · rw [if_pos h2] at h; cases h
  rw [if_neg h2]
  have h3 : ¬ spanU k s = 0 := fun e => h1 (Or.inr e)
  exact ⟨Int.mul_nonneg (by omega) hs, Int.mul_le_of_le_ediv (by omega) (by omega)⟩

/-! Words -/
theorem word_nocomma {l : List UInt8} (h : wordB l = true) : l ≠ [] ∧ ∀ x ∈ l, ¬ x = 44 := by
  unfold wordB at h
  simp only [Bool.and_eq_true, decide_eq_true_eq] at h
  refine ⟨fun e => by rw [e] at h; simp at h, fun x hx e => ?_⟩
  have := List.all_eq_true.1 h.2 x hx
  rw [e] at this; revert this; decide
theorem pieces_word : ∀ (x r : List UInt8), (∀ c ∈ x, ¬ c = 44) → pieces (x ++ 44 :: r) = x :: pieces r := by
  intro x
  induction x with
  | nil => intro r _; exact pieces_comma r
  | cons c x ih =>
    intro r h
    have hc := h c List.mem_cons_self
    have := ih r (fun y hy => h y (List.mem_cons_of_mem _ hy))
    rw [List.cons_append]
    simp only [pieces]
    rw [if_neg hc, this]
theorem pieces_one : ∀ (x : List UInt8), (∀ c ∈ x, ¬ c = 44) → pieces x = [x] := by
  intro x
  induction x with
  | nil => intro _; rfl
  | cons c x ih =>
    intro h
    have hc := h c List.mem_cons_self
    have := ih (fun y hy => h y (List.mem_cons_of_mem _ hy))
    simp only [pieces]
    rw [if_neg hc, this]
theorem pieces_join : ∀ (r : List (List UInt8)) (x : List UInt8), allWords (x :: r) = true → pieces (x ++ Lib.joinTail [44] r) = x :: r := by
  intro r
  induction r with
  | nil =>
    intro x h
    have hx := word_nocomma (by simpa [allWords] using h : wordB x = true)
    have e : Lib.joinTail [44] [] = [] := rfl
    rw [e, List.append_nil]; exact pieces_one x hx.2
  | cons y r ih =>
    intro x h
    have h1 : wordB x = true ∧ allWords (y :: r) = true := by simpa [allWords] using h
    have e : Lib.joinTail [44] (y :: r) = 44 :: (y ++ Lib.joinTail [44] r) := by simp [Lib.joinTail]
    rw [e, pieces_word x _ (word_nocomma h1.1).2, ih y h1.2]
theorem join_pieces : ∀ s : List UInt8, ∃ x r, pieces s = x :: r ∧ x ++ Lib.joinTail [44] r = s := by
  intro s
  induction s with
  | nil => exact ⟨[], [], rfl, rfl⟩
  | cons c s ih =>
    obtain ⟨x, r, h1, h2⟩ := ih
    by_cases hc : c = 44
    · subst hc
      refine ⟨[], pieces s, pieces_comma s, ?_⟩
      rw [h1]
      have e : Lib.joinTail [44] (x :: r) = 44 :: (x ++ Lib.joinTail [44] r) := by simp [Lib.joinTail]
      rw [e, h2]; rfl
    · refine ⟨c :: x, r, ?_, ?_⟩
      · simp only [pieces]; rw [if_neg hc, h1]
      · rw [List.cons_append, h2]
theorem join_of_pieces (s : List UInt8) : Lib.join (pieces s) [44] = s := by
  obtain ⟨x, r, h1, h2⟩ := join_pieces s
  rw [h1, Lib.join_cons, h2]
theorem wl_mk (l : List (List UInt8)) : wl (l.map mkB) = l := by
  unfold wl; rw [List.map_map]; exact List.map_id'' (fun x => rfl) l
theorem mk_wl (v : List ByteArray) : (wl v).map mkB = v := by
  unfold wl; rw [List.map_map]; exact List.map_id'' (fun x => mkB_self x) v
theorem words_print {v : List ByteArray} (h1 : v.length ≤ 16) (h2 : allWords (wl v) = true) (h3 : (joinW v).length ≤ 200) : wordsV (joinW v) = 0 ∧ wordsOf (joinW v) = v := by
  cases v with
  | nil => exact ⟨by decide, rfl⟩
  | cons a r =>
    have e : joinW (a :: r) = a.data.toList ++ Lib.joinTail [44] (wl r) := by unfold joinW; rw [show wl (a :: r) = a.data.toList :: wl r from rfl, Lib.join_cons]
    have hw : allWords (a.data.toList :: wl r) = true := h2
    have hp : pieces (joinW (a :: r)) = a.data.toList :: wl r := by rw [e]; exact pieces_join _ _ hw
    have ha : wordB a.data.toList = true := by have : wordB a.data.toList = true ∧ allWords (wl r) = true := by simpa [allWords] using hw
                                               exact this.1
    have hne : joinW (a :: r) ≠ [] := by
      rw [e]; intro h; exact (word_nocomma ha).1 (List.append_eq_nil_iff.1 h).1
    refine ⟨?_, ?_⟩
    · unfold wordsV
      rw [if_neg hne, hp, hw, if_neg (by decide), if_neg]
      rintro (h | h)
      · omega
      · have : (a.data.toList :: wl r).length = (a :: r).length := by simp [wl]
        omega
    · unfold wordsOf
      rw [if_neg hne, hp]
      exact mk_wl (a :: r)
theorem words_cases {s : List UInt8} (h : wordsV s = 0) : (wordsOf s).length ≤ 16 ∧ allWords (wl (wordsOf s)) = true ∧ joinW (wordsOf s) = s ∧ s.length ≤ 200 := by
  unfold wordsV at h
  by_cases h0 : s = []
  · subst h0; exact ⟨by decide, rfl, rfl, by simp⟩
  rw [if_neg h0] at h
  cases ha : allWords (pieces s) with
  | false => rw [ha] at h; simp at h
  | true =>
    rw [ha, if_neg (by decide)] at h
    by_cases h2 : 200 < s.length ∨ 16 < (pieces s).length
    · rw [if_pos h2] at h; cases h
    have e : wordsOf s = (pieces s).map mkB := by unfold wordsOf; rw [if_neg h0]
    refine ⟨by rw [e, List.length_map]; omega, by rw [e, wl_mk]; exact ha, by unfold joinW; rw [e, wl_mk]; exact join_of_pieces s, by omega⟩
end Go.Proofs.YtopghlnoklajkaaGreatDoor

namespace Go.Proofs.YtopghlnoklajkaaGreatDoor

theorem text_nil {t : ByteArray} (h : t.data.toList = []) : t = ⟨#[]⟩ := by
  rw [← mkB_self t, h]; rfl
theorem bool_cases (s : List UInt8) : boolV s = (1, 0) ∨ boolV s = (0, 0) ∨ boolV s = (0, 40) := by
  unfold boolV; repeat' split
  all_goals simp
theorem back_read (v : Val) (hr : rightV v = true) : parseV v.kind (mkB (printV v)) = (v, 0) := by
  have hc := right_cases hr
  clear hr
  obtain ⟨k, n, t, xs⟩ := v
  simp only at hc ⊢
  rcases hc with ⟨rfl, h, ht, hx⟩ | ⟨rfl, h, ht, hx⟩ | ⟨hk, h, ht, hx⟩ | ⟨rfl, rfl, ht, hx⟩ | ⟨rfl, rfl, ht, h1, h2, h3⟩
  · obtain rfl := text_nil ht
    obtain rfl := List.eq_nil_of_length_eq_zero hx
    rw [parse1, mkB_data]
    have hn : n = 0 ∨ n = 1 := by omega
    rcases hn with rfl | rfl <;> rfl
  · obtain rfl := text_nil ht
    obtain rfl := List.eq_nil_of_length_eq_zero hx
    rw [parse2, mkB_data]
    have e : printV ⟨2, n, ⟨#[]⟩, []⟩ = Lib.itoa n := rfl
    rw [e, whole_itoa n h.1 h.2]; rfl
  · obtain rfl := text_nil ht
    obtain rfl := List.eq_nil_of_length_eq_zero hx
    have hp : parseV k (mkB (printV ⟨k, n, ⟨#[]⟩, []⟩)) = intOk k (unitedV k (printV ⟨k, n, ⟨#[]⟩, []⟩)) := by
      rcases hk with rfl | rfl
      · rw [parse3, mkB_data]
      · rw [parse4, mkB_data]
    have e : printV ⟨k, n, ⟨#[]⟩, []⟩ = Lib.itoa (n / (unitFor k n).1) ++ (unitFor k n).2 := by
      unfold printV; rw [if_neg (by simp only; omega), if_neg (by simp only; omega), if_pos hk]
    rw [hp, e, united_print k n hk h.1 h.2]; rfl
  · obtain rfl := List.eq_nil_of_length_eq_zero hx
    have e : printV ⟨5, 0, t, []⟩ = t.data.toList := rfl
    rw [e, mkB_self, parse5]
    unfold textR; rw [if_pos ht]
  · obtain rfl := text_nil ht
    have e : printV ⟨6, 0, ⟨#[]⟩, xs⟩ = joinW xs := rfl
    obtain ⟨w1, w2⟩ := words_print h1 h2 h3
    rw [e, parse6]
    unfold listR; rw [mkB_data, if_pos w1, w2]
theorem intOk_zero {k : Int} {r : Int × Int} (h : (intOk k r).2 = 0) : r.2 = 0 ∧ (intOk k r).1 = ⟨k, r.1, ⟨#[]⟩, []⟩ := by
  unfold intOk at h ⊢
  by_cases h0 : r.2 = 0
  · rw [if_pos h0]; exact ⟨h0, rfl⟩
  · rw [if_neg h0] at h; exact absurd h h0
theorem read_right {k : Int} {s : ByteArray} (h : (parseV k s).2 = 0) : rightV (parseV k s).1 = true ∧ (parseV k s).1.kind = k ∧ ((k = 2 ∨ k = 5 ∨ k = 6) → printV (parseV k s).1 = s.data.toList) := by
  by_cases h1 : k = 1
  · subst h1; rw [parse1] at h ⊢
    obtain ⟨e, q⟩ := intOk_zero h
    rw [q]
    refine ⟨?_, rfl, by omega⟩
    rcases bool_cases s.data.toList with b | b | b <;> rw [b] at e ⊢
    · rfl
    · rfl
    · cases e
  by_cases h2 : k = 2
  · subst h2; rw [parse2] at h ⊢
    obtain ⟨e, q⟩ := intOk_zero h
    have hb := whole_bd e
    rw [q]
    refine ⟨?_, rfl, fun _ => whole_text e⟩
    unfold rightV; rw [if_neg (by simp only; omega), if_pos rfl, decide_eq_true hb]; rfl
  by_cases h3 : k = 3 ∨ k = 4
  · have hp : parseV k s = intOk k (unitedV k s.data.toList) := by
      rcases h3 with rfl | rfl
      · exact parse3 s
      · exact parse4 s
    rw [hp] at h ⊢
    obtain ⟨e, q⟩ := intOk_zero h
    have hb := united_bd e
    rw [q]
    refine ⟨?_, rfl, by omega⟩
    unfold rightV; rw [if_neg (by simp only; omega), if_neg (by simp only; omega), if_pos h3, decide_eq_true hb]; rfl
  by_cases h5 : k = 5
  · subst h5; rw [parse5] at h ⊢
    unfold textR at h ⊢
    by_cases ht : textV s.data.toList = 0
    · rw [if_pos ht]
      refine ⟨?_, rfl, fun _ => rfl⟩
      unfold rightV; rw [if_neg (by simp only; omega), if_neg (by simp only; omega), if_neg (by simp only; omega), if_pos rfl, decide_eq_true ht]; rfl
    · rw [if_neg ht] at h; exact absurd h ht
  by_cases h6 : k = 6
  · subst h6; rw [parse6] at h ⊢
    unfold listR at h ⊢
    by_cases ht : wordsV s.data.toList = 0
    · rw [if_pos ht]
      obtain ⟨w1, w2, w3, w4⟩ := words_cases ht
      refine ⟨?_, rfl, fun _ => w3⟩
      unfold rightV wordsRight
      rw [if_neg (by simp only; omega), if_neg (by simp only; omega), if_neg (by simp only; omega), if_neg (by simp only; omega), if_pos rfl]
      simp only
      rw [w2, w3, decide_eq_true w1, decide_eq_true w4]; rfl
    · rw [if_neg ht] at h; exact absurd h ht
  · rw [parse0 h1 h2 (by omega) (by omega) h5 h6] at h; cases h
/-- Two right values of a kind are printed alike just if they are the same. -/
theorem print_one {v w : Val} (hv : rightV v = true) (hw : rightV w = true) (hk : v.kind = w.kind) : sameV v w = decide (printV v = printV w) := by
  by_cases h : printV v = printV w
  · have h1 := back_read v hv
    have h2 := back_read w hw
    rw [h, hk, h2] at h1
    have e : w = v := congrArg Prod.fst h1
    subst e
    simp [sameV]
  · rw [decide_eq_false h]
    cases hs : sameV v w with
    | false => rfl
    | true =>
      unfold sameV at hs
      simp only [Bool.and_eq_true, decide_eq_true_eq] at hs
      obtain ⟨⟨⟨a, b⟩, c⟩, d⟩ := hs
      exact absurd (by obtain ⟨_, _, _, _⟩ := v; obtain ⟨_, _, _, _⟩ := w; simp only at a b c d; subst a b c d; rfl) h
theorem same_self (v : Val) : sameV v v = true := by simp [sameV]
end Go.Proofs.YtopghlnoklajkaaGreatDoor
