/-
  ValueArg, KeyOrd.
-/
import Derived.Test.YtbgoooljkdjjhaaGreatDoorQValueParse
import Derived.Test.YtbgoooljkdjjhaaGreatDoorQValueRight
import Derived.Test.YtbgoooljkdjjhaaGreatDoorQKeyForm
import Derived.Test.YtbgoooljkdjjhaaGreatDoorQKeyRow
namespace Go.Proofs.YtbgoooljkdjjhaaGreatDoor
open Go.ChangeShapes Go.WideShapes Go.ChangeAt Go.RowKit

theorem OwnT.arg {B : Nat} {w : World} {v : Val} {x : Option Addr} {cap : Nat} (h : OwnT B w x cap v.words) (hl : v.words.length ≤ 2147483647) (hs : ∀ k (h : k < v.words.length), v.words[k].size ≤ maxLen) (ht : v.text.size ≤ maxLen) : ArgOk w v x cap := by
  rcases h with ⟨rfl, hn, rfl⟩ | ⟨g, rfl, _, rfl, _, hg⟩
  · exact ⟨by rw [hn]; exact Txts.nil_ _ _, by rw [hn]; exact Nat.le_refl _, by omega, hs, ht⟩
  · refine ⟨fun k hk => ⟨g, 0, rfl, (Array.getElem?_eq_some_iff.1 hg).1, ?_⟩, Nat.le_refl _, by omega, hs, ht⟩
    rw [cell_of_row w g (0 + k) _ _ _ hg]; simp [hk]
theorem right_bounds {v : Val} (h : rightV v = true) : v.words.length ≤ 16 ∧ (∀ k (h : k < v.words.length), v.words[k].size ≤ 200) ∧ v.text.size ≤ 200 := by
  have hsz : ∀ b : ByteArray, b.data.toList = [] → b.size ≤ 200 := fun b hb => by
    have : b.data.toList.length = b.size := by simp
    rw [hb] at this; simp at this; omega
  have hnil : ∀ (n : Nat), n = 0 → v.words.length = n → v.words.length ≤ 16 ∧ ∀ k (h : k < v.words.length), v.words[k].size ≤ 200 := fun n h0 hn => ⟨by omega, fun k hk => absurd hk (by omega)⟩
  unfold rightV at h
  split at h
  · simp only [Bool.and_eq_true, decide_eq_true_eq] at h
    exact ⟨(hnil 0 rfl h.2).1, (hnil 0 rfl h.2).2, hsz _ h.1.2⟩
  split at h
  · simp only [Bool.and_eq_true, decide_eq_true_eq] at h
    exact ⟨(hnil 0 rfl h.2).1, (hnil 0 rfl h.2).2, hsz _ h.1.2⟩
  split at h
  · simp only [Bool.and_eq_true, decide_eq_true_eq] at h
    exact ⟨(hnil 0 rfl h.2).1, (hnil 0 rfl h.2).2, hsz _ h.1.2⟩
  split at h
  · simp only [Bool.and_eq_true, decide_eq_true_eq] at h
    refine ⟨(hnil 0 rfl h.2).1, (hnil 0 rfl h.2).2, ?_⟩
    have ht := h.1.2
    unfold textV at ht
    split at ht
    · cases ht
    · split at ht
      · cases ht
      · have : v.text.data.toList.length = v.text.size := by simp
        omega
  split at h
  · simp only [Bool.and_eq_true, decide_eq_true_eq] at h
    obtain ⟨⟨_, ht⟩, hw⟩ := h
    unfold wordsRight at hw
    simp only [Bool.and_eq_true, decide_eq_true_eq] at hw
    refine ⟨hw.1.1, fun k hk => ?_, hsz _ ht⟩
    have hm : v.words[k].data.toList ∈ wl v.words := List.mem_map.2 ⟨_, List.getElem_mem hk, rfl⟩
    have := List.all_eq_true.1 hw.1.2 _ hm
    unfold wordB at this
    simp only [Bool.and_eq_true, decide_eq_true_eq] at this
    have hl : v.words[k].data.toList.length = v.words[k].size := by simp
    omega
  · cases h
end Go.Proofs.YtbgoooljkdjjhaaGreatDoor

namespace Go.Proofs.YtbgoooljkdjjhaaGreatDoor

theorem cmp_refl : ∀ a : List UInt8, Lib.compareBytes a a = 0
  | [] => rfl
  | x :: a => by unfold Lib.compareBytes; rw [if_neg (UInt8.lt_irrefl x), if_neg (UInt8.lt_irrefl x)]; exact cmp_refl a
theorem cmp_eq0 : ∀ a b : List UInt8, Lib.compareBytes a b = 0 → a = b
  | [], [], _ => rfl
  | [], _ :: _, h => by simp [Lib.compareBytes] at h
  | _ :: _, [], h => by simp [Lib.compareBytes] at h
  | x :: a, y :: b, h => by
    unfold Lib.compareBytes at h
    split at h
    · exact absurd h (by decide)
    · rename_i h1
      split at h
      · exact absurd h (by decide)
      · rename_i h2
        have e : x = y := UInt8.le_antisymm (UInt8.not_lt.1 h2) (UInt8.not_lt.1 h1)
        rw [e, cmp_eq0 a b h]
theorem cmp_anti : ∀ a b : List UInt8, Lib.compareBytes b a = - Lib.compareBytes a b
  | [], [] => rfl
  | [], _ :: _ => rfl
  | _ :: _, [] => rfl
  | x :: a, y :: b => by
    unfold Lib.compareBytes
    by_cases h1 : x < y
    · rw [if_pos h1, if_neg (fun h => UInt8.lt_irrefl x (UInt8.lt_trans h1 h)), if_pos h1]; rfl
    · by_cases h2 : y < x
      · rw [if_pos h2, if_neg h1, if_pos h2]
      · rw [if_neg h2, if_neg h1, if_neg h1, if_neg h2]; exact cmp_anti a b
theorem cmp_trans : ∀ a b c : List UInt8, Lib.compareBytes a b < 0 → Lib.compareBytes b c < 0 → Lib.compareBytes a c < 0
  | [], [], _, h, _ => absurd h (by simp [Lib.compareBytes])
  | [], _ :: _, [], _, h => absurd h (by simp [Lib.compareBytes])
  | [], _ :: _, _ :: _, _, _ => by simp [Lib.compareBytes]
  | _ :: _, [], _, h, _ => absurd h (by simp [Lib.compareBytes])
  | _ :: _, _ :: _, [], _, h => absurd h (by simp [Lib.compareBytes])
  | x :: a, y :: b, z :: c, h, k => by
    unfold Lib.compareBytes at h k ⊢
    by_cases h1 : x < y
    · by_cases k1 : y < z
      · rw [if_pos (UInt8.lt_trans h1 k1)]; decide
      · rw [if_neg k1] at k
        by_cases k2 : z < y
        · rw [if_pos k2] at k; exact absurd k (by decide)
        · have e : y = z := UInt8.le_antisymm (UInt8.not_lt.1 k2) (UInt8.not_lt.1 k1)
          rw [← e, if_pos h1]; decide
    · rw [if_neg h1] at h
      by_cases h2 : y < x
      · rw [if_pos h2] at h; exact absurd h (by decide)
      · have e : x = y := UInt8.le_antisymm (UInt8.not_lt.1 h2) (UInt8.not_lt.1 h1)
        rw [if_neg h2] at h
        rw [e]
        by_cases k1 : y < z
        · rw [if_pos k1]; decide
        · rw [if_neg k1] at k ⊢
          by_cases k2 : z < y
          · rw [if_pos k2] at k; exact absurd k (by decide)
          · rw [if_neg k2] at k ⊢
            exact cmp_trans a b c h k
theorem cmpB_eq {a b : ByteArray} (h : cmpB a b = 0) : a = b := by
  have := cmp_eq0 _ _ h
  rw [← mkB_self a, this, mkB_self]
theorem cmpB_refl (a : ByteArray) : cmpB a a = 0 := cmp_refl _
theorem cmpB_anti (a b : ByteArray) : cmpB b a = - cmpB a b := cmp_anti _ _
theorem cmpB_trans {a b c : ByteArray} (h : cmpB a b < 0) (k : cmpB b c < 0) : cmpB a c < 0 := cmp_trans _ _ _ h k

/-- By rising names. -/
def Sorted (xs : List KeyV) : Prop := ∀ a b (hb : b < xs.length) (h : a < b), cmpB (xs[a]'(Nat.lt_trans h hb)).name xs[b].name < 0
theorem Sorted.mono {xs : List KeyV} (h : Sorted xs) (nm : ByteArray) : Mono xs nm := fun a b hab hb hc => by
  rcases Nat.lt_or_ge a b with h1 | h1
  · rw [cmpAt_of hb] at hc
    rw [cmpAt_of (Nat.lt_trans h1 hb)]
    exact cmpB_trans (h a b hb h1) hc
  · have e : a = b := by omega
    rw [e]; exact hc
theorem place_one {xs : List KeyV} {nm : ByteArray} {i j : Nat} (h : PlaceIs xs nm i) (k : PlaceIs xs nm j) : i = j := by
  obtain ⟨h0, h1, h2⟩ := h
  obtain ⟨k0, k1, k2⟩ := k
  rcases Nat.lt_trichotomy i j with h | h | h
  · have := k1 i h; have := h2 i (Nat.le_refl _) (by omega); omega
  · exact h
  · have := h1 j h; have := k2 j (Nat.le_refl _) (by omega); omega
/-- Where a name stands, or would stand. -/
def posK (xs : List KeyV) (nm : ByteArray) : Nat := (xs.takeWhile fun q => decide (cmpB q.name nm < 0)).length
theorem tw_lt {α : Type} (p : α → Bool) : ∀ (xs : List α) (t : Nat), t < (xs.takeWhile p).length → ∃ h2 : t < xs.length, p xs[t] = true := by
  intro xs
  induction xs with
  | nil => intro t h; simp at h
  | cons x xs ih =>
    intro t h
    rw [List.takeWhile_cons] at h
    split at h
    · rename_i hx
      cases t with
      | zero => exact ⟨by simp, hx⟩
      | succ t =>
        obtain ⟨h2, h3⟩ := ih t (by simpa using h)
        exact ⟨by simpa using h2, by simpa using h3⟩
    · simp at h
theorem tw_at {α : Type} (p : α → Bool) : ∀ (xs : List α) (h : (xs.takeWhile p).length < xs.length), p xs[(xs.takeWhile p).length] = false := by
  intro xs
  induction xs with
  | nil => intro h; simp at h
  | cons x xs ih =>
    intro h
    by_cases hx : p x = true
    · have e : ((x :: xs).takeWhile p).length = (xs.takeWhile p).length + 1 := by rw [List.takeWhile_cons, if_pos hx]; rfl
      have h2 : (xs.takeWhile p).length < xs.length := by rw [e] at h; simpa using h
      have := ih h2
      simp only [e, List.getElem_cons_succ]; exact this
    · have e : ((x :: xs).takeWhile p).length = 0 := by rw [List.takeWhile_cons, if_neg hx]; rfl
      simp only [e, List.getElem_cons_zero]; simpa using hx
theorem tw_le {α : Type} (p : α → Bool) (xs : List α) : (xs.takeWhile p).length ≤ xs.length := (List.takeWhile_sublist p).length_le
theorem posK_is {xs : List KeyV} {nm : ByteArray} (hm : Mono xs nm) : PlaceIs xs nm (posK xs nm) := by
  refine ⟨tw_le _ _, fun t ht => ?_, fun t h1 h2 => ?_⟩
  · obtain ⟨h3, h4⟩ := tw_lt _ xs t ht
    rw [cmpAt_of h3]; simpa using h4
  · rcases Int.lt_or_le (cmpAt xs nm t) 0 with h | h
    · have h3 : posK xs nm < xs.length := Nat.lt_of_le_of_lt h1 h2
      have h4 := hm _ _ h1 h2 h
      have h5 := tw_at _ xs h3
      rw [cmpAt_of h3] at h4
      have h6 : decide (cmpB (xs[posK xs nm]'h3).name nm < 0) = false := h5
      rw [decide_eq_true h4] at h6; cases h6
    · exact h
def hasK (xs : List KeyV) (nm : ByteArray) : Bool := xs.any fun q => decide (q.name = nm)
theorem found_is {xs : List KeyV} {nm : ByteArray} {i : Nat} (hs : Sorted xs) (h : PlaceIs xs nm i) : (decide (i < xs.length) && decide (cmpAt xs nm i = 0)) = hasK xs nm := by
  rw [Bool.eq_iff_iff]
  unfold hasK
  simp only [Bool.and_eq_true, decide_eq_true_eq, List.any_eq_true]
  constructor
  · rintro ⟨h1, h2⟩
    rw [cmpAt_of h1] at h2
    exact ⟨_, List.getElem_mem h1, cmpB_eq h2⟩
  · rintro ⟨q, hq, e⟩
    obtain ⟨t, ht, rfl⟩ := List.getElem_of_mem hq
    have hz : cmpAt xs nm t = 0 := by rw [cmpAt_of ht, e]; exact cmpB_refl _
    have hit : i ≤ t := by
      rcases Nat.lt_or_ge t i with h3 | h3
      · have := h.2.1 t h3; omega
      · exact h3
    have hi : i < xs.length := by omega
    refine ⟨hi, ?_⟩
    rcases Nat.lt_or_ge i t with h3 | h3
    · have h4 := hs i t ht h3
      rw [e] at h4
      have := h.2.2 i (Nat.le_refl _) hi
      rw [cmpAt_of hi] at this
      omega
    · have : i = t := by omega
      rw [this]; exact hz
theorem ins_sorted {xs : List KeyV} {k : KeyV} {i : Nat} (hs : Sorted xs) (h : PlaceIs xs k.name i) (hn : hasK xs k.name = false) : Sorted ((xs.take i ++ k :: xs.drop i)) := by
  have hne : ∀ t (ht : t < xs.length), i ≤ t → cmpB k.name xs[t].name < 0 := fun t ht hit => by
    have h1 := h.2.2 t hit ht
    rw [cmpAt_of ht] at h1
    have h2 : cmpB xs[t].name k.name ≠ 0 := fun h0 => by
      have : hasK xs k.name = true := List.any_eq_true.2 ⟨_, List.getElem_mem ht, by rw [decide_eq_true_eq]; exact cmpB_eq h0⟩
      rw [hn] at this; cases this
    rw [cmpB_anti]; omega
  have hi := h.1
  have hlen : ((xs.take i ++ k :: xs.drop i)).length = xs.length + 1 := by simp; omega
  have g1 : ∀ t (ht : t < ((xs.take i ++ k :: xs.drop i)).length), t < i → ∃ h2 : t < xs.length, ((xs.take i ++ k :: xs.drop i))[t] = xs[t] := fun t ht h1 => ⟨by omega, by
    rw [List.getElem_append_left (by simp; omega), List.getElem_take]⟩
  have g2 : ∀ (ht : i < ((xs.take i ++ k :: xs.drop i)).length), ((xs.take i ++ k :: xs.drop i))[i] = k := fun ht => by
    rw [List.getElem_append_right (by simp; omega)]; simp [Nat.min_eq_left hi]
  have g3 : ∀ t (ht : t < ((xs.take i ++ k :: xs.drop i)).length), i < t → ∃ h2 : t - 1 < xs.length, ((xs.take i ++ k :: xs.drop i))[t] = xs[t - 1] := fun t ht h1 => ⟨by omega, by
    rw [List.getElem_append_right (by simp; omega)]
    simp only [List.length_take, Nat.min_eq_left hi]
    rw [List.getElem_cons, dif_neg (by omega), List.getElem_drop]
    congr 1; omega⟩
  intro a b hb hab
  have ha : a < ((xs.take i ++ k :: xs.drop i)).length := Nat.lt_trans hab hb
  rcases Nat.lt_trichotomy b i with hbi | hbi | hbi
  · obtain ⟨h2, e2⟩ := g1 b hb hbi
    obtain ⟨h1, e1⟩ := g1 a ha (by omega)
    rw [e1, e2]; exact hs a b h2 hab
  · subst hbi
    obtain ⟨h1, e1⟩ := g1 a ha hab
    rw [e1, g2 hb]
    have := h.2.1 a hab
    rw [cmpAt_of h1] at this; exact this
  · obtain ⟨h2, e2⟩ := g3 b hb hbi
    rw [e2]
    rcases Nat.lt_trichotomy a i with hai | hai | hai
    · obtain ⟨h1, e1⟩ := g1 a ha hai
      rw [e1]; exact hs a (b - 1) h2 (by omega)
    · subst hai
      rw [g2 ha]; exact hne _ h2 (by omega)
    · obtain ⟨h1, e1⟩ := g3 a ha hai
      rw [e1]; exact hs (a - 1) (b - 1) h2 (by omega)

/-- May a definition's default be? -/
def dfltK (k : KeyV) : Bool := decide ((parseV k.kind k.dflt).2 = 0) && withinV (parseV k.kind k.dflt).1 k.least k.most
/-- What Add answers, and what the set then has. -/
def addE (xs : List KeyV) (k : KeyV) : Int :=
  if formK k = false then 50 else if dfltK k = false then 53 else if hasK xs k.name = true then 51 else if (letterK xs k.letter).isSome = true then 52 else if 64 ≤ xs.length then 54 else 0
def addK (xs : List KeyV) (k : KeyV) : List KeyV := if addE xs k = 0 then insK xs (posK xs k.name) k else xs
theorem addK_len (xs : List KeyV) (k : KeyV) (h : xs.length ≤ 64) : (addK xs k).length ≤ 64 := by
  unfold addK
  split
  · rename_i h0
    have h1 : ¬ 64 ≤ xs.length := fun h2 => by
      unfold addE at h0
      rw [if_pos h2] at h0
      repeat' split at h0
      all_goals exact absurd h0 (by decide)
    have : (insK xs (posK xs k.name) k).length = xs.length + 1 := by
      have := tw_le (fun q => decide (cmpB q.name k.name < 0)) xs
      unfold insK posK; simp; omega
    omega
  · exact h
theorem addK_sorted {xs : List KeyV} (k : KeyV) (h : Sorted xs) : Sorted (addK xs k) := by
  unfold addK
  split
  · rename_i h0
    have hn : hasK xs k.name = false := by
      cases hh : hasK xs k.name with
      | false => rfl
      | true =>
        unfold addE at h0
        rw [if_pos hh] at h0
        repeat' split at h0
        all_goals exact absurd h0 (by decide)
    exact ins_sorted h (posK_is (h.mono _)) hn
  · exact h
end Go.Proofs.YtbgoooljkdjjhaaGreatDoor
