/-
  CutMath, EnvMath.
-/
import Derived.Test.YtbgoooljkdjjhaaGreatDoorQValueMath
import Derived.Lib.CutLaws
import Derived.Lib.IndexMore
import Derived.Test.YtbgoooljkdjjhaaGreatDoorQGlyphNames3
import Derived.Lib.Replace
import Derived.Lib.Case
import Derived.Lib.SplitLaws
namespace Go.Proofs.YtbgoooljkdjjhaaGreatDoor

theorem indexD_cons (d c : UInt8) (l : List UInt8) : Lib.index (c :: l) [d] = if c = d then 0 else if Lib.index l [d] = -1 then -1 else Lib.index l [d] + 1 := by
  by_cases h : c = d
  · subst h; rw [Lib.index]; simp [List.isPrefixOf]
  · have hp : ([d] : List UInt8).isPrefixOf (c :: l) = false := by simp [List.isPrefixOf, Ne.symm h]
    rw [Lib.index, hp, if_neg h]; simp
def upTo (d : UInt8) (l : List UInt8) : List UInt8 := l.takeWhile (· != d)
def after (d : UInt8) (l : List UInt8) : List UInt8 := (l.dropWhile (· != d)).drop 1
theorem upTo_cons {d c : UInt8} {r : List UInt8} (h : c ≠ d) : upTo d (c :: r) = c :: upTo d r := by
  unfold upTo
  rw [List.takeWhile_cons, if_pos (by simpa using h)]
theorem upTo_sep (d : UInt8) (r : List UInt8) : upTo d (d :: r) = [] := by unfold upTo; simp
theorem after_cons {d c : UInt8} {r : List UInt8} (h : c ≠ d) : after d (c :: r) = after d r := by
  unfold after
  rw [List.dropWhile_cons, if_pos (by simpa using h)]
theorem after_sep (d : UInt8) (r : List UInt8) : after d (d :: r) = r := by unfold after; simp
theorem has_cons {d c : UInt8} {r : List UInt8} (h : c ≠ d) : (c :: r).contains d = r.contains d := by
  have : (d == c) = false := by simpa using fun e => h e.symm
  rw [List.contains_cons, this, Bool.false_or]
theorem index_is (d : UInt8) (l : List UInt8) : Lib.index l [d] = if l.contains d then ((upTo d l).length : Int) else -1 := by
  induction l with
  | nil => rfl
  | cons c r ih =>
    rw [indexD_cons]
    by_cases h : c = d
    · subst h
      rw [if_pos rfl, upTo_sep, if_pos (by simp)]; rfl
    · rw [if_neg h, has_cons h, upTo_cons h, ih]
      by_cases hc : r.contains d = true
      · rw [if_pos hc, if_pos hc, if_neg (by omega), List.length_cons]; omega
      · rw [if_neg hc, if_neg hc, if_pos rfl]
theorem whole_is (d : UInt8) (l : List UInt8) (h : l.contains d = true) : l = upTo d l ++ d :: after d l := by
  induction l with
  | nil => simp at h
  | cons c r ih =>
    by_cases e : c = d
    · subst e; rw [upTo_sep, after_sep]; rfl
    · rw [has_cons e] at h
      rw [upTo_cons e, after_cons e, List.cons_append, ← ih h]
theorem upTo_none {d : UInt8} {l : List UInt8} (h : l.contains d = false) : upTo d l = l := by
  induction l with
  | nil => rfl
  | cons c r ih =>
    have e : c ≠ d := fun e => by subst e; simp at h
    rw [has_cons e] at h
    rw [upTo_cons e, ih h]
theorem cut_is (d : UInt8) (l : List UInt8) : Lib.cut l [d] = if l.contains d then (upTo d l, after d l, true) else (l, [], false) := by
  unfold Lib.cut
  rw [index_is]
  by_cases h : l.contains d = true
  · rw [if_pos h, if_pos h, if_pos (by omega)]
    have hw := whole_is d l h
    have e : (((upTo d l).length : Int)).toNat = (upTo d l).length := by omega
    rw [e]
    generalize upTo d l = a at *
    generalize after d l = b at *
    subst hw
    simp [List.drop_append]
  · rw [if_neg h, if_neg h, if_neg (by omega)]
end Go.Proofs.YtbgoooljkdjjhaaGreatDoor

namespace Go.Proofs.YtbgoooljkdjjhaaGreatDoor

/-! What a name is called -/
def upc (c : UInt8) : UInt8 := if c = 46 then 95 else Lib.upperB c
def calledL (l : List UInt8) : List UInt8 := l.map upc
/-- The bytes of names. -/
def okc (c : UInt8) : Bool := (decide (97 ≤ c.toNat) && decide (c.toNat ≤ 122)) || (decide (48 ≤ c.toNat) && decide (c.toNat ≤ 57)) || decide (c = 46)
/-- Back. -/
def dnc (c : UInt8) : UInt8 := if c = 95 then 46 else if 65 ≤ c.toNat ∧ c.toNat ≤ 90 then c + 32 else c
theorem byte_all {p : UInt8 → Bool} (h : (List.range 256).all (fun i => p (UInt8.ofNat i)) = true) (c : UInt8) : p c = true := by
  have := List.all_eq_true.1 h c.toNat (List.mem_range.2 (by have := c.toNat_lt; omega))
  rwa [UInt8.ofNat_toNat] at this
theorem dnc_upc (c : UInt8) (h : okc c = true) : dnc (upc c) = c := by
  have := byte_all (p := fun c => !okc c || decide (dnc (upc c) = c)) (by decide +kernel) c
  simpa [h] using this
theorem okc_ascii (c : UInt8) (h : okc c = true) : c.toNat < 128 := by
  have := byte_all (p := fun c => !okc c || decide (c.toNat < 128)) (by decide +kernel) c
  simpa [h] using this
theorem upc_eq (c : UInt8) (h : okc c = true) : upc c ≠ 61 := by
  have := byte_all (p := fun c => !okc c || decide (upc c ≠ 61)) (by decide +kernel) c
  simpa [h] using this
theorem upc_joint (c : UInt8) (h : okc c = true) (h2 : c ≠ 46) : upc c ≠ 95 := by
  have := byte_all (p := fun c => !okc c || decide (c = 46) || decide (upc c ≠ 95)) (by decide +kernel) c
  simpa [h, h2] using this
theorem cls_ok : ∀ c : UInt8, cls c.toNat = 1 ∨ cls c.toNat = 3 ∨ (c.toNat : Int) = 46 → okc c = true := fun c h => by
  have := byte_all (p := fun c => !(decide (cls c.toNat = 1) || decide (cls c.toNat = 3) || decide ((c.toNat : Int) = 46)) || okc c) (by decide +kernel) c
  rcases h with h | h | h <;> simpa [h] using this
theorem nameGo_ok (l : List UInt8) : ∀ (p : Nat) (b : Bool), nameGo p b l = true → l.all okc = true := by
  induction l with
  | nil => intro _ _ _; rfl
  | cons c r ih =>
    intro p b h
    rw [nameGo] at h
    rw [List.all_cons, Bool.and_eq_true]
    by_cases h1 : cls c.toNat = 1
    · rw [if_pos h1] at h
      exact ⟨cls_ok c (.inl h1), ih _ _ h⟩
    · rw [if_neg h1] at h
      cases b with
      | true => simp at h
      | false =>
        rw [if_neg (by decide)] at h
        by_cases h2 : (c.toNat : Int) = 46
        · rw [if_pos h2] at h
          exact ⟨cls_ok c (.inr (.inr h2)), ih _ _ h⟩
        · rw [if_neg h2] at h
          by_cases h3 : cls c.toNat = 3
          · rw [if_pos h3] at h
            exact ⟨cls_ok c (.inr (.inl h3)), ih _ _ h⟩
          · rw [if_neg h3] at h; cases h
theorem name_ok {l : List UInt8} (h : nameB l = true) : l.all okc = true := by
  unfold nameB at h
  rw [Bool.and_eq_true] at h
  exact nameGo_ok l _ _ h.2
theorem name_len {l : List UInt8} (h : nameB l = true) : l.length ≤ 32 := by
  unfold nameB at h
  rw [Bool.and_eq_true] at h
  exact of_decide_eq_true h.1
theorem name_ne {l : List UInt8} (h : nameB l = true) : l ≠ [] := fun e => by
  subst e
  exact absurd h (by decide)
theorem called_back {l : List UInt8} (h : l.all okc = true) : (calledL l).map dnc = l := by
  unfold calledL
  rw [List.map_map]
  refine (List.map_congr_left (g := id) fun c hc => ?_).trans (List.map_id _)
  exact dnc_upc c (List.all_eq_true.1 h c hc)
/-- No two names are called the same. -/
theorem called_inj {a b : List UInt8} (ha : a.all okc = true) (hb : b.all okc = true) (h : calledL a = calledL b) : a = b := by
  rw [← called_back ha, h, called_back hb]
theorem called_len (l : List UInt8) : (calledL l).length = l.length := List.length_map _
theorem contains_no {d : UInt8} {l : List UInt8} (h : ∀ c ∈ l, c ≠ d) : l.contains d = false := by
  cases hc : l.contains d with
  | false => rfl
  | true => exact absurd rfl (h d (List.contains_iff_mem.1 hc))
theorem called_noeq {l : List UInt8} (h : l.all okc = true) : (calledL l).contains 61 = false := contains_no fun c hc => by
  obtain ⟨x, hx, rfl⟩ := List.mem_map.1 hc
  exact upc_eq x (List.all_eq_true.1 h x hx)
theorem upTo_mem {d c : UInt8} {l : List UInt8} (h : c ∈ upTo d l) : c ∈ l ∧ c ≠ d := by
  induction l with
  | nil => exact absurd h (by simp [upTo])
  | cons x r ih =>
    by_cases e : x = d
    · subst e; rw [upTo_sep] at h; cases h
    · rw [upTo_cons e] at h
      rcases List.mem_cons.1 h with rfl | h
      · exact ⟨by simp, e⟩
      · exact ⟨List.mem_cons_of_mem _ (ih h).1, (ih h).2⟩
theorem first_ok {l : List UInt8} (h : l.all okc = true) : (upTo 46 l).all okc = true := List.all_eq_true.2 fun c hc => List.all_eq_true.1 h c (upTo_mem hc).1
theorem first_nojoint {l : List UInt8} (h : l.all okc = true) : (calledL (upTo 46 l)).contains 95 = false := contains_no fun c hc => by
  obtain ⟨x, hx, rfl⟩ := List.mem_map.1 hc
  exact upc_joint x (List.all_eq_true.1 h x (upTo_mem hx).1) (upTo_mem hx).2

/-! The library's way there -/
theorem map_no {l : List UInt8} (h : l.contains 46 = false) : l.map (fun c => if c = 46 then (95 : UInt8) else c) = l := by
  refine (List.map_congr_left (g := id) fun c hc => ?_).trans (List.map_id _)
  rw [if_neg]; rfl
  rintro rfl
  rw [List.contains_iff_mem.2 hc] at h
  cases h
theorem upTo_no (d : UInt8) (l : List UInt8) : (upTo d l).contains d = false := contains_no fun _ hc => (upTo_mem hc).2
theorem replaceK_point (k : Nat) : ∀ (l : List UInt8), l.count 46 = k → Lib.replaceK [46] [95] k l = l.map (fun c => if c = 46 then (95 : UInt8) else c) := by
  induction k with
  | zero =>
    intro l h
    rw [Lib.replaceK, map_no]
    exact contains_no fun c hc e => by subst e; exact absurd (List.count_pos_iff.2 hc) (by omega)
  | succ k ih =>
    intro l h
    have hc : l.contains 46 = true := List.contains_iff_mem.2 (List.count_pos_iff.1 (by omega))
    have hi := index_is 46 l
    rw [if_pos hc] at hi
    have hw := whole_is 46 l hc
    have hn := upTo_no 46 l
    rw [Lib.replaceK_hit _ _ _ _ _ hi]
    generalize upTo 46 l = a at hw hn ⊢
    generalize after 46 l = b at hw ⊢
    subst hw
    have ha : a.count 46 = 0 := List.count_eq_zero.2 fun hm => by rw [List.contains_iff_mem.2 hm] at hn; cases hn
    rw [List.count_append, List.count_cons_self, ha] at h
    have hd : (a ++ 46 :: b).drop (a.length + [(46 : UInt8)].length) = b := by rw [List.drop_append]; simp
    rw [hd, ih b (by omega), List.map_append, List.map_cons, map_no hn, List.take_left' rfl, if_pos rfl]
    simp
theorem called_lib (l : List UInt8) : Lib.replaceAll (Lib.toUpperA l) [46] [95] = calledL l := by
  unfold Lib.replaceAll Lib.replace
  rw [if_neg (by decide)]
  have hk : Lib.replaceNum (Lib.toUpperA l) [46] (-1) = (Lib.toUpperA l).count 46 := by
    unfold Lib.replaceNum
    rw [if_pos (.inl (by decide)), Lib.count_one]
  rw [hk, replaceK_point _ _ rfl]
  unfold Lib.toUpperA calledL
  rw [List.map_map]
  refine List.map_congr_left fun c _ => ?_
  have := byte_all (p := fun c => decide ((if Lib.upperB c = 46 then (95 : UInt8) else Lib.upperB c) = upc c)) (by decide +kernel) c
  simpa using this

/-! What pairs give -/
def findN (ns : List ByteArray) (nm : List UInt8) : Option ByteArray := ns.find? fun n => calledL n.data.toList == nm
def likeN (ns : List ByteArray) (nm : List UInt8) : Bool := nm.contains 95 && ns.any fun n => calledL (upTo 46 n.data.toList) == upTo 95 nm
/-- What is wrong with a pair. -/
def pairE (ns : List ByteArray) (p : List UInt8) : Int :=
  if (!p.contains 61 || (upTo 61 p).isEmpty) = true then 80 else if (findN ns (upTo 61 p)).isSome = true then 0 else if likeN ns (upTo 61 p) = true then 81 else 0
theorem prefix_like {P nm : List UInt8} (hP : P.contains 95 = false) : (decide (P.length + 1 ≤ nm.length) && (nm.take (P.length + 1) == P ++ [95])) = (nm.contains 95 && (P == upTo 95 nm)) := by
  rw [Bool.eq_iff_iff, Bool.and_eq_true, Bool.and_eq_true, beq_iff_eq, beq_iff_eq, decide_eq_true_iff]
  constructor
  · rintro ⟨h1, h2⟩
    have hnm : nm = P ++ 95 :: nm.drop (P.length + 1) := by
      conv => lhs; rw [← List.take_append_drop (P.length + 1) nm, h2]
      simp
    generalize nm.drop (P.length + 1) = r at hnm
    subst hnm
    refine ⟨List.contains_iff_mem.2 (by simp), ?_⟩
    clear h1 h2
    induction P with
    | nil => rw [List.nil_append, upTo_sep]
    | cons c P ih =>
      have e : c ≠ 95 := fun e => by subst e; simp at hP
      rw [has_cons e] at hP
      rw [List.cons_append, upTo_cons e, ← ih hP]
  · rintro ⟨h1, rfl⟩
    have hw := whole_is 95 nm h1
    have hl := congrArg List.length hw
    rw [List.length_append, List.length_cons] at hl
    refine ⟨by omega, ?_⟩
    generalize upTo 95 nm = a at hw ⊢
    generalize after 95 nm = b at hw
    subst hw
    rw [show a ++ 95 :: b = (a ++ [95]) ++ b by simp, List.take_left' (by simp)]
end Go.Proofs.YtbgoooljkdjjhaaGreatDoor
