/-
  CodecMath.
-/

/-
 The plain mathematics of chapter 3: the row of a number, what a row says, what is taken up. Nothing of the program.
-/
namespace Go.Proofs.YtlommddabccdeaaGreatDoor

def rowL (n : Nat) : List UInt8 := if n < 128 then [UInt8.ofNat n] else UInt8.ofNat (128 + n % 128) :: rowL (n / 128)
termination_by n
decreasing_by omega
theorem rowL_small {n : Nat} (h : n < 128) : rowL n = [UInt8.ofNat n] := by rw [rowL, if_pos h]
theorem rowL_great {n : Nat} (h : ¬ n < 128) : rowL n = UInt8.ofNat (128 + n % 128) :: rowL (n / 128) := by rw [rowL, if_neg h]
def valL : List UInt8 → Nat
 | [] => 0
 | b :: r => b.toNat % 128 + 128 * valL r
def rowLen : List UInt8 → Nat → Nat × Int
 | [], _ => (0, 32)
 | b :: r, k => if b.toNat < 128 then (k + 1, 0) else if k + 1 = 9 then (0, 30) else rowLen r (k + 1)
def takeN (l : List UInt8) : Nat × List UInt8 × Int :=
 if (rowLen l 0).2 ≠ 0 then (0, [], (rowLen l 0).2)
 else if 4611686018427387904 < valL (l.take (rowLen l 0).1) then (0, [], 30)
 else if rowL (valL (l.take (rowLen l 0).1)) ≠ l.take (rowLen l 0).1 then (0, [], 30)
 else (valL (l.take (rowLen l 0).1), l.drop (rowLen l 0).1, 0)
def takeT (l : List UInt8) (most : Int) : List UInt8 × List UInt8 × Int :=
 if (takeN l).2.2 ≠ 0 then ([], [], (takeN l).2.2)
 else if min most 65535 < ((takeN l).1 : Int) then ([], [], 31)
 else if (takeN l).2.1.length < (takeN l).1 then ([], [], 32)
 else ((takeN l).2.1.take (takeN l).1, (takeN l).2.1.drop (takeN l).1, 0)

theorem b_lo (n : Nat) (h : n < 128) : (UInt8.ofNat n).toNat = n := by simp; omega
theorem b_hi (n : Nat) : (UInt8.ofNat (128 + n % 128)).toNat = 128 + n % 128 := by simp; omega

theorem rowL_len (k : Nat) : ∀ n, n < 128 ^ (k + 1) → (rowL n).length ≤ k + 1 := by
 induction k with
 | zero => intro n h; rw [rowL_small (by simpa using h)]; simp
 | succ k ih =>
  intro n h
  by_cases hs : n < 128
  ·rw [rowL_small hs]; simp
  ·rw [rowL_great hs]
   have : n / 128 < 128 ^ (k + 1) := by
    rw [Nat.div_lt_iff_lt_mul (by omega)]; rw [Nat.pow_succ] at h; exact h
   have := ih _ this
   simp; omega
theorem rowL_len9 {n : Nat} (h : n ≤ 4611686018427387904) : (rowL n).length ≤ 9 := rowL_len 8 n (by omega)
theorem rowL_pos (n : Nat) : 0 < (rowL n).length := by
 by_cases hs : n < 128
 ·rw [rowL_small hs]; simp
 ·rw [rowL_great hs]; simp
theorem rowL_len3 {n : Nat} (h : n ≤ 65535) : (rowL n).length ≤ 3 := rowL_len 2 n (by omega)

theorem valL_rowL (n : Nat) : valL (rowL n) = n := by
 induction n using Nat.strongRecOn with
 | _ n ih =>
  by_cases hs : n < 128
  ·rw [rowL_small hs]; simp only [valL, b_lo n hs]; omega
  ·rw [rowL_great hs]; simp only [valL, b_hi]; rw [ih (n / 128) (by omega)]; omega

theorem rowLen_row (n : Nat) (r : List UInt8) : ∀ k, k + (rowL n).length ≤ 9 → rowLen (rowL n ++ r) k = (k + (rowL n).length, 0) := by
 induction n using Nat.strongRecOn with
 | _ n ih =>
  intro k hk
  by_cases hs : n < 128
  ·rw [rowL_small hs]; simp only [List.cons_append, rowLen, b_lo n hs, if_pos hs, List.length_singleton]
  ·rw [rowL_great hs] at hk ⊢
   have hp := rowL_pos (n / 128)
   simp only [List.length_cons] at hk
   rw [List.cons_append, rowLen, b_hi, if_neg (by omega), if_neg (by omega), ih (n / 128) (by omega) (k + 1) (by omega)]
   simp only [List.length_cons, Prod.mk.injEq, and_true]; omega

theorem takeN_row {n : Nat} (h : n ≤ 4611686018427387904) (r : List UInt8) : takeN (rowL n ++ r) = (n, r, 0) := by
 have h1 := rowLen_row n r 0 (by have := rowL_len9 h; omega)
 simp only [Nat.zero_add] at h1
 rw [takeN, h1]
 simp only [List.take_left, List.drop_left, valL_rowL]
 rw [if_neg (by omega), if_neg (by omega), if_neg (by simp)]

theorem takeN_ok {l r : List UInt8} {n : Nat} (h : takeN l = (n, r, 0)) : l = rowL n ++ r ∧ n ≤ 4611686018427387904 := by
 unfold takeN at h
 split at h
 ·rename_i h0
  simp only [Prod.mk.injEq] at h
  exact absurd h.2.2 h0
 ·split at h
  ·simp at h
  ·split at h
   ·simp at h
   ·rename_i _ h2 h3
    simp only [Prod.mk.injEq, and_true] at h
    obtain ⟨rfl, rfl⟩ := h
    simp only [ne_eq, Decidable.not_not] at h3
    exact ⟨by rw [h3, List.take_append_drop], by omega⟩

theorem rowLen_err {l : List UInt8} {k : Nat} : (rowLen l k).2 = 0 ∨ (rowLen l k).2 = 30 ∨ (rowLen l k).2 = 32 := by
 induction l generalizing k with
 | nil => simp [rowLen]
 | cons b r ih =>
  rw [rowLen]
  split
  ·exact Or.inl rfl
  ·split
   ·exact Or.inr (Or.inl rfl)
   ·exact ih
theorem takeN_err (l : List UInt8) : (takeN l).2.2 = 0 ∨ (((takeN l).2.2 = 30 ∨ (takeN l).2.2 = 32) ∧ (takeN l).1 = 0 ∧ (takeN l).2.1 = []) := by
 unfold takeN
 split
 ·rename_i h
  have := rowLen_err (l := l) (k := 0)
  simp only [and_true]
  omega
 ·split
  ·exact Or.inr ⟨Or.inl rfl, rfl, rfl⟩
  ·split
   ·exact Or.inr ⟨Or.inl rfl, rfl, rfl⟩
   ·exact Or.inl rfl
theorem takeT_err (l : List UInt8) (m : Int) : (takeT l m).2.2 = 0 ∨ (((takeT l m).2.2 = 30 ∨ (takeT l m).2.2 = 31 ∨ (takeT l m).2.2 = 32) ∧ (takeT l m).1 = [] ∧ (takeT l m).2.1 = []) := by
 have h0 := takeN_err l
 unfold takeT
 split
 ·rename_i h
  refine Or.inr ⟨?_, rfl, rfl⟩
  rcases h0 with h1 | ⟨h1, _, _⟩
  ·exact absurd h1 h
  ·show (takeN l).2.2 = 30 ∨ (takeN l).2.2 = 31 ∨ (takeN l).2.2 = 32
   omega
 ·split
  ·exact Or.inr ⟨Or.inr (Or.inl rfl), rfl, rfl⟩
  ·split
   ·exact Or.inr ⟨Or.inr (Or.inr rfl), rfl, rfl⟩
   ·exact Or.inl rfl
theorem takeT_row {t r : List UInt8} {m : Int} (h : t.length ≤ 65535) (hm : (t.length : Int) ≤ m) : takeT (rowL t.length ++ t ++ r) m = (t, r, 0) := by
 rw [takeT, List.append_assoc, takeN_row (by omega)]
 simp only
 rw [if_neg (by simp), if_neg (by omega), if_neg (by rw [List.length_append]; omega)]
 simp

def numRow (n : Int) : List UInt8 × Int := if n < 0 ∨ 4611686018427387904 < n then ([], 30) else (rowL n.toNat, 0)
def textRow (s : List UInt8) : List UInt8 × Int := if 65535 < s.length then ([], 31) else (rowL s.length ++ s, 0)
def layL (most : Int) (st : List UInt8 × Int) (r : List UInt8 × Int) : List UInt8 × Int :=
 if st.2 ≠ 0 then st else if r.2 ≠ 0 then ([], r.2) else if most - st.1.length < (r.1.length : Int) then ([], 31) else (st.1 ++ r.1, 0)
theorem numRow_len (n : Int) : (numRow n).1.length ≤ 9 := by
 unfold numRow; split
 ·simp
 ·exact rowL_len9 (by omega)
theorem textRow_len (s : List UInt8) : (textRow s).1.length ≤ 65538 ∧ (textRow s).1.length ≤ s.length + 3 := by
 unfold textRow; split
 ·simp
 ·have := rowL_len3 (n := s.length) (by omega)
  simp only [List.length_append]; omega
end Go.Proofs.YtlommddabccdeaaGreatDoor
