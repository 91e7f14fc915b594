/-
  ValueTexts, ValueAll.
-/
import Derived.Test.YtlcgfdijohgnpaaGreatDoorQValuePrint
namespace Go.Proofs.YtlcgfdijohgnpaaGreatDoor

/-! Numerals -/
theorem digit_of {c : UInt8} (h : isD c = true) : UInt8.ofNat (48 + (c.toNat - 48)) = c := by
 have hb : 48 ≤ c.toNat ∧ c.toNat ≤ 57 := by simpa [isD] using h
 rw [show 48 + (c.toNat - 48) = c.toNat by omega]; simp
theorem dec_snoc (l : List UInt8) (c : UInt8) : dec (l ++ [c]) = dec l * 10 + (c.toNat - 48) := by
 unfold dec; rw [decAcc_append, decAcc_cons, decAcc_nil, decS_eq]
theorem digits_small {u : Nat} (h : u < 10) : Lib.decDigits u = [UInt8.ofNat (48 + u)] := Lib.decDigits_one h
theorem digits_big {u : Nat} (h : ¬ u < 10) : Lib.decDigits u = Lib.decDigits (u / 10) ++ [UInt8.ofNat (48 + u % 10)] := by rw [Lib.decDigits, dif_neg h]
theorem numOk_ne {l : List UInt8} (h : numOk l = true) : l ≠ [] := by
 rintro rfl; cases h
theorem dec_pos {c : UInt8} {r : List UInt8} (hd : isD c = true) (hc : c ≠ 48) : 1 ≤ dec (c :: r) := by
 have hb : 48 ≤ c.toNat ∧ c.toNat ≤ 57 := by simpa [isD] using hd
 have hn : c.toNat ≠ 48 := fun e => hc (UInt8.toNat_inj.1 e)
 unfold dec; rw [decAcc_cons, decS_eq]
 have := decAcc_ge (0 * 10 + (c.toNat - 48)) r
 omega
theorem numOk_iff' (c : UInt8) (r : List UInt8) : numOk (c :: r) = true ↔ (c :: r).all isD = true ∧ (c ≠ 48 ∨ r = []) := by
 rw [numOk_iff]; simp [List.isEmpty_iff]
theorem digits_dec : ∀ (n : Nat) (l : List UInt8), l.length = n → numOk l = true → Lib.decDigits (dec l) = l := by
 intro n
 induction n with
 | zero => intro l hl h; exact absurd (List.eq_nil_of_length_eq_zero hl) (numOk_ne h)
 | succ n ih =>
  intro l hl h
  obtain ⟨l', c, rfl⟩ : ∃ l' c, l = l' ++ [c] := ⟨l.dropLast, l.getLast (by intro e; rw [e] at hl; cases hl), (List.dropLast_concat_getLast _).symm⟩
  have hall := numOk_all h
  simp only [List.all_append, List.all_cons, List.all_nil, Bool.and_true, Bool.and_eq_true] at hall
  have hb : 48 ≤ c.toNat ∧ c.toNat ≤ 57 := by simpa [isD] using hall.2
  rw [dec_snoc]
  cases l' with
  | nil =>
   have : dec [] = 0 := by unfold dec; rw [decAcc_nil]
   rw [this, digits_small (by omega), show 48 + (0 * 10 + (c.toNat - 48)) = 48 + (c.toNat - 48) by omega, digit_of hall.2]; rfl
  | cons a r =>
   rw [List.cons_append, numOk_iff'] at h
   have ha : a ≠ 48 := by rcases h.2 with h2 | h2; exact h2; simp at h2
   have hda : isD a = true := by have := hall.1; simp only [List.all_cons, Bool.and_eq_true] at this; exact this.1
   have hp := dec_pos (r := r) hda ha
   have h' : numOk (a :: r) = true := (numOk_iff' a r).2 ⟨hall.1, Or.inl ha⟩
   have hi := ih (a :: r) (by simpa using hl) h'
   rw [digits_big (by omega), show (dec (a :: r) * 10 + (c.toNat - 48)) / 10 = dec (a :: r) by omega, show (dec (a :: r) * 10 + (c.toNat - 48)) % 10 = c.toNat - 48 by omega, hi, digit_of hall.2]
theorem numeral_of {l : List UInt8} (h : numOk l = true) : Lib.decDigits (dec l) = l := digits_dec _ l rfl h
/-! Int -/
theorem whole_cases {s : List UInt8} (h : (wholeV s).2 = 0) : numOk (unsg s) = true ∧ ¬ (negOf s = true ∧ dec (unsg s) = 0) ∧ dec (unsg s) ≤ 4611686018427387904 ∧ (wholeV s).1 = if negOf s then -(dec (unsg s) : Int) else (dec (unsg s) : Int) := by
 unfold wholeV at h ⊢
 by_cases h1 : numOk (unsg s) = false ∨ (negOf s = true ∧ dec (unsg s) = 0)
 ·rw [if_pos h1] at h; cases h
 rw [if_neg h1] at h ⊢
 by_cases h2 : 4611686018427387904 < dec (unsg s)
 ·rw [if_pos h2] at h; cases h
 rw [if_neg h2]
 exact ⟨by cases hq : numOk (unsg s) with
  | true => rfl
  | false => exact absurd (Or.inl hq) h1, fun hh => h1 (Or.inr hh), by omega, rfl⟩
theorem whole_bd {s : List UInt8} (h : (wholeV s).2 = 0) : -4611686018427387904 ≤ (wholeV s).1 ∧ (wholeV s).1 ≤ 4611686018427387904 := by
 obtain ⟨_, _, h2, h3⟩ := whole_cases h
 rw [h3]; split <;> omega
theorem whole_text {s : List UInt8} (h : (wholeV s).2 = 0) : Lib.itoa (wholeV s).1 = s := by
 obtain ⟨h0, h1, h2, h3⟩ := whole_cases h
 rw [h3]
 have hn := numeral_of h0
 cases hg : negOf s with
 | true =>
  have hd : ¬ dec (unsg s) = 0 := fun e => h1 ⟨hg, e⟩
  have hs : s = 45 :: unsg s := by
   cases s with
   | nil => cases hg
   | cons c r =>
    have : c = 45 := by simpa [negOf] using hg
    subst this; rfl
  rw [if_pos rfl]
  unfold Lib.itoa
  rw [if_pos (by omega), show (-(dec (unsg s) : Int)).natAbs = dec (unsg s) by omega, hn]
  exact hs.symm
 | false =>
  have hs : unsg s = s := by unfold unsg; rw [hg]; rfl
  rw [if_neg (by decide)]
  unfold Lib.itoa
  rw [if_neg (by omega), show ((dec (unsg s) : Int)).toNat = dec (unsg s) by omega, hn, hs]

/-! Size and Span -/
theorem united_bd {k : Int} {s : List UInt8} (h : (unitedV k s).2 = 0) : 0 ≤ (unitedV k s).1 ∧ (unitedV k s).1 ≤ mostV k := by
 unfold unitedV at h ⊢
 have hu := unit_bd k (s.dropWhile isD)
 have hs : 0 ≤ spanU k s := by unfold spanU; split <;> omega
 by_cases h1 : numOk (s.takeWhile isD) = false ∨ spanU k s = 0
 ·rw [if_pos h1] at h; cases h
 rw [if_neg h1] at h ⊢
 by_cases h2 : mostV k / spanU k s < dec (s.takeWhile isD)
 ·rw [if_pos h2] at h; cases h
 rw [if_neg h2]
 have h3 : ¬ spanU k s = 0 := fun e => h1 (Or.inr e)
 exact ⟨Int.mul_nonneg (by omega) hs, Int.mul_le_of_le_ediv (by omega) (by omega)⟩

/-! Words -/
theorem join_pieces : ∀ s : List UInt8, ∃ x r, pieces s = x :: r ∧ x ++ Lib.joinTail [44] r = s := by
 intro s
 induction s with
 | nil => exact ⟨[], [], rfl, rfl⟩
 | cons c s ih =>
  obtain ⟨x, r, h1, h2⟩ := ih
  by_cases hc : c = 44
  ·subst hc
   refine ⟨[], pieces s, pieces_comma s, ?_⟩
   rw [h1]
   have e : Lib.joinTail [44] (x :: r) = 44 :: (x ++ Lib.joinTail [44] r) := by simp [Lib.joinTail]
   rw [e, h2]; rfl
  ·refine ⟨c :: x, r, ?_, ?_⟩
   ·simp only [pieces]; rw [if_neg hc, h1]
   ·rw [List.cons_append, h2]
theorem join_of_pieces (s : List UInt8) : Lib.join (pieces s) [44] = s := by
 obtain ⟨x, r, h1, h2⟩ := join_pieces s
 rw [h1, Lib.join_cons, h2]
theorem wl_mk (l : List (List UInt8)) : wl (l.map mkB) = l := by
 unfold wl; rw [List.map_map]; exact List.map_id'' (fun x => rfl) l
theorem words_cases {s : List UInt8} (h : wordsV s = 0) : (wordsOf s).length ≤ 16 ∧ allWords (wl (wordsOf s)) = true ∧ joinW (wordsOf s) = s ∧ s.length ≤ 200 := by
 unfold wordsV at h
 by_cases h0 : s = []
 ·subst h0; exact ⟨by decide, rfl, rfl, by simp⟩
 rw [if_neg h0] at h
 cases ha : allWords (pieces s) with
 | false => rw [ha] at h; simp at h
 | true =>
  rw [ha, if_neg (by decide)] at h
  by_cases h2 : 200 < s.length ∨ 16 < (pieces s).length
  ·rw [if_pos h2] at h; cases h
  have e : wordsOf s = (pieces s).map mkB := by unfold wordsOf; rw [if_neg h0]
  refine ⟨by rw [e, List.length_map]; omega, by rw [e, wl_mk]; exact ha, by unfold joinW; rw [e, wl_mk]; exact join_of_pieces s, by omega⟩
end Go.Proofs.YtlcgfdijohgnpaaGreatDoor

namespace Go.Proofs.YtlcgfdijohgnpaaGreatDoor

theorem bool_cases (s : List UInt8) : boolV s = (1, 0) ∨ boolV s = (0, 0) ∨ boolV s = (0, 40) := by
 unfold boolV; repeat' split
 all_goals simp
theorem intOk_zero {k : Int} {r : Int × Int} (h : (intOk k r).2 = 0) : r.2 = 0 ∧ (intOk k r).1 = ⟨k, r.1, ⟨#[]⟩, []⟩ := by
 unfold intOk at h ⊢
 by_cases h0 : r.2 = 0
 ·rw [if_pos h0]; exact ⟨h0, rfl⟩
 ·rw [if_neg h0] at h; exact absurd h h0
theorem read_right {k : Int} {s : ByteArray} (h : (parseV k s).2 = 0) : rightV (parseV k s).1 = true ∧ (parseV k s).1.kind = k ∧ ((k = 2 ∨ k = 5 ∨ k = 6) → printV (parseV k s).1 = s.data.toList) := by
 by_cases h1 : k = 1
 ·subst h1; rw [parse1] at h ⊢
  obtain ⟨e, q⟩ := intOk_zero h
  rw [q]
  refine ⟨?_, rfl, by omega⟩
  rcases bool_cases s.data.toList with b | b | b <;> rw [b] at e ⊢
  ·rfl
  ·rfl
  ·cases e
 by_cases h2 : k = 2
 ·subst h2; rw [parse2] at h ⊢
  obtain ⟨e, q⟩ := intOk_zero h
  have hb := whole_bd e
  rw [q]
  refine ⟨?_, rfl, fun _ => whole_text e⟩
  unfold rightV; rw [if_neg (by simp only; omega), if_pos rfl, decide_eq_true hb]; rfl
 by_cases h3 : k = 3 ∨ k = 4
 ·have hp : parseV k s = intOk k (unitedV k s.data.toList) := by
   rcases h3 with rfl | rfl
   ·exact parse3 s
   ·exact parse4 s
  rw [hp] at h ⊢
  obtain ⟨e, q⟩ := intOk_zero h
  have hb := united_bd e
  rw [q]
  refine ⟨?_, rfl, by omega⟩
  unfold rightV; rw [if_neg (by simp only; omega), if_neg (by simp only; omega), if_pos h3, decide_eq_true hb]; rfl
 by_cases h5 : k = 5
 ·subst h5; rw [parse5] at h ⊢
  unfold textR at h ⊢
  by_cases ht : textV s.data.toList = 0
  ·rw [if_pos ht]
   refine ⟨?_, rfl, fun _ => rfl⟩
   unfold rightV; rw [if_neg (by simp only; omega), if_neg (by simp only; omega), if_neg (by simp only; omega), if_pos rfl, decide_eq_true ht]; rfl
  ·rw [if_neg ht] at h; exact absurd h ht
 by_cases h6 : k = 6
 ·subst h6; rw [parse6] at h ⊢
  unfold listR at h ⊢
  by_cases ht : wordsV s.data.toList = 0
  ·rw [if_pos ht]
   obtain ⟨w1, w2, w3, w4⟩ := words_cases ht
   refine ⟨?_, rfl, fun _ => w3⟩
   unfold rightV wordsRight
   rw [if_neg (by simp only; omega), if_neg (by simp only; omega), if_neg (by simp only; omega), if_neg (by simp only; omega), if_pos rfl]
   simp only
   rw [w2, w3, decide_eq_true w1, decide_eq_true w4]; rfl
  ·rw [if_neg ht] at h; exact absurd h ht
 ·rw [parse0 h1 h2 (by omega) (by omega) h5 h6] at h; cases h
end Go.Proofs.YtlcgfdijohgnpaaGreatDoor
