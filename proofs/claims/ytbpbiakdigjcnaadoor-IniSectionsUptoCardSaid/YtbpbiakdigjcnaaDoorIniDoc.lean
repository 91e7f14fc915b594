/-
  The document's own way of reading a file, in the words of IniMath: blanks at both ends, lines, parts, texts. No model in this text.
-/
import Derived.Test.YtbpbiakdigjcnaaDoorIniMath
namespace Go.Proofs.YtbpbiakdigjcnaaDoor

/-! Blanks at both ends -/
def isBl (c : UInt8) : Bool := bl.contains c
theorem isBl_is (c : UInt8) : isBl c = decide ((c.toNat : Int) = 32 ∨ (c.toNat : Int) = 9) := by
  unfold isBl bl
  rw [Bool.eq_iff_iff]
  simp only [List.contains_iff_mem, List.mem_cons, List.not_mem_nil, or_false, decide_eq_true_eq]
  constructor
  · rintro (rfl | rfl)
    · exact .inl rfl
    · exact .inr rfl
  · rintro (h | h)
    · exact .inl (UInt8.toNat_inj.1 (by simp; omega))
    · exact .inr (UInt8.toNat_inj.1 (by simp; omega))
theorem trimL_bl {c : UInt8} {r : List UInt8} (h : isBl c = true) : trimL (c :: r) = trimL r := by
  unfold trimL Lib.trimLeftS
  rw [List.dropWhile_cons, if_pos (show bl.contains c = true from h)]
theorem trimL_no {c : UInt8} {r : List UInt8} (h : isBl c = false) : trimL (c :: r) = c :: r := by
  unfold trimL Lib.trimLeftS
  rw [List.dropWhile_cons, if_neg (by rw [show bl.contains c = isBl c from rfl, h]; simp)]
theorem trimR_bl {c : UInt8} {r : List UInt8} (h : isBl c = true) : trimR (r ++ [c]) = trimR r := by
  unfold trimR Lib.trimRightS
  rw [List.reverse_append, List.reverse_singleton, List.singleton_append, List.dropWhile_cons, if_pos (show bl.contains c = true from h)]
theorem trimR_no {c : UInt8} {r : List UInt8} (h : isBl c = false) : trimR (r ++ [c]) = r ++ [c] := by
  unfold trimR Lib.trimRightS
  rw [List.reverse_append, List.reverse_singleton, List.singleton_append, List.dropWhile_cons, if_neg (by rw [show bl.contains c = isBl c from rfl, h]; simp), List.reverse_cons, List.reverse_reverse]
theorem trimR_front (c : UInt8) (r : List UInt8) : trimR (c :: r) = if trimR r = [] ∧ isBl c = true then [] else c :: trimR r := by
  unfold trimR Lib.trimRightS
  rw [List.reverse_cons, List.dropWhile_append]
  generalize List.dropWhile (bl.contains ·) r.reverse = x
  cases x with
  | nil =>
    rw [if_pos (by simp)]
    cases h : isBl c
    · rw [if_neg (by simp), List.dropWhile_cons, if_neg (by rw [show bl.contains c = isBl c from rfl, h]; simp)]; simp
    · rw [if_pos (by simp), List.dropWhile_cons, if_pos (show bl.contains c = true from h)]; simp
  | cons y z =>
    rw [if_neg (by simp), if_neg (by simp), List.reverse_append]; simp
theorem trim_comm (l : List UInt8) : trimR (trimL l) = trimL (trimR l) := by
  induction l with
  | nil => rfl
  | cons c r ih =>
    cases h : isBl c
    · rw [trimL_no h, trimR_front, if_neg (by simp [h]), trimL_no h]
    · rw [trimL_bl h, ih, trimR_front]
      by_cases hr : trimR r = []
      · rw [if_pos ⟨hr, h⟩, hr]
      · rw [if_neg (fun e => hr e.1), trimL_bl h]
theorem trimB_is (l : List UInt8) : trimB l = trimR (trimL l) := (trim_comm l).symm
/-- A text without blanks at its ends. -/
def tight (l : List UInt8) : Prop := (∀ c, l.head? = some c → isBl c = false) ∧ (∀ c, l.getLast? = some c → isBl c = false)
theorem trimL_head (l : List UInt8) : ∀ c, (trimL l).head? = some c → isBl c = false := by
  induction l with
  | nil => intro c h; cases h
  | cons d r ih =>
    intro c
    cases h : isBl d
    · rw [trimL_no h]; intro e; injection e with e; rw [← e]; exact h
    · rw [trimL_bl h]; exact ih c
theorem trimL_self {l : List UInt8} (h : ∀ c, l.head? = some c → isBl c = false) : trimL l = l := by
  cases l with
  | nil => rfl
  | cons c r => exact trimL_no (h c rfl)
theorem trimR_self {l : List UInt8} (h : ∀ c, l.getLast? = some c → isBl c = false) : trimR l = l := by
  rcases List.eq_nil_or_concat l with rfl | ⟨a, b, rfl⟩
  · rfl
  · rw [List.concat_eq_append] at h ⊢
    exact trimR_no (h b (by simp))
theorem trimR_last (l : List UInt8) : ∀ c, (trimR l).getLast? = some c → isBl c = false := by
  intro c
  unfold trimR Lib.trimRightS
  rw [List.getLast?_reverse]
  exact trimL_head l.reverse c
theorem trimB_tight (l : List UInt8) : tight (trimB l) :=
  ⟨trimL_head (trimR l), by rw [trimB_is]; exact trimR_last _⟩
theorem tight_trim {l : List UInt8} (h : tight l) : trimB l = l := by
  rw [trimB_is, trimL_self h.1, trimR_self h.2]
theorem blank_head (l : List UInt8) : (trimB l = [] ∧ ∀ c ∈ l, isBl c = true) ∨ trimB l ≠ [] := by
  by_cases h : trimB l = []
  · refine .inl ⟨h, ?_⟩
    rw [trimB_is] at h
    induction l with
    | nil => intro c hc; cases hc
    | cons d r ih =>
      cases hd : isBl d
      · rw [trimL_no hd, trimR_front, if_neg (by simp [hd])] at h; cases h
      · rw [trimL_bl hd] at h
        intro c hc
        rcases List.mem_cons.1 hc with rfl | hc
        · exact hd
        · exact ih h c hc
  · exact .inr h
/-- Of a text without blanks at its ends: what stands ahead of a byte that is no blank. -/
theorem upTo_trim {d : UInt8} {l : List UInt8} (h : tight l) : trimB (upTo d l) = trimR (upTo d l) := by
  rw [trimB_is]
  congr 1
  apply trimL_self
  intro c hc
  cases l with
  | nil => cases hc
  | cons e r =>
    by_cases he : e = d
    · subst he; rw [upTo_sep] at hc; cases hc
    · rw [upTo_cons he] at hc
      injection hc with hc
      rw [← hc]
      exact h.1 e rfl
theorem after_trim {d : UInt8} {l : List UInt8} (h : tight l) (hc : l.contains d = true) : trimB (after d l) = trimL (after d l) := by
  unfold trimB Lib.trimS
  show trimL (trimR (after d l)) = _
  congr 1
  apply trimR_self
  intro c hl
  apply h.2 c
  rw [whole_is d l hc]
  generalize after d l = b at hl
  cases b with
  | nil => cases hl
  | cons x y =>
    rw [List.getLast?_append, List.getLast?_cons_cons, hl]; rfl

/-! Lines -/
theorem cuts_none {d : UInt8} {x : List UInt8} (h : d ∉ x) : cuts d x = [x] := by
  induction x with
  | nil => rfl
  | cons c r ih =>
    have hc : c ≠ d := fun e => h (by rw [e]; exact List.mem_cons_self ..)
    have := ih (fun hm => h (List.mem_cons_of_mem _ hm))
    rw [cuts, if_neg hc, this]
theorem cuts_line {d : UInt8} {x : List UInt8} (h : d ∉ x) (r : List UInt8) : cuts d (x ++ d :: r) = x :: cuts d r := by
  induction x with
  | nil => rw [List.nil_append, cuts_sep]
  | cons c y ih =>
    have hc : c ≠ d := fun e => h (by rw [e]; exact List.mem_cons_self ..)
    have := ih (fun hm => h (List.mem_cons_of_mem _ hm))
    rw [List.cons_append, cuts, if_neg hc, this]

/-! Parts -/
/-- The machine of parts: does a part begin here? -/
def partsGo : Bool → List UInt8 → Bool
  | b, [] => !b
  | b, c :: r => if cls c.toNat = 1 then partsGo false r else if cls c.toNat = 3 then (if b = true then false else partsGo false r)
    else if (c.toNat : Int) = 46 then (if b = true then false else partsGo true r) else false
def partsB (l : List UInt8) : Bool := partsGo true l
theorem cls46 : cls 46 = 5 := by decide
/-- How a part goes on. -/
def partOn (b : Bool) (x : List UInt8) : Bool := !(b && x.isEmpty) && partGo b x
theorem parts_cut (l : List UInt8) : ∀ b, partsGo b l = (partOn b (upTo 46 l) && (!l.contains 46 || partsGo true (after 46 l))) := by
  induction l with
  | nil => intro b; cases b <;> rfl
  | cons c r ih =>
    intro b
    by_cases h : c = 46
    · subst h
      rw [upTo_sep, after_sep]
      have e1 : ((46 : UInt8) :: r).contains 46 = true := by simp
      rw [e1, partsGo, if_neg (by decide), if_neg (by decide), if_pos (by decide)]
      cases b <;> simp [partOn, partGo]
    · rw [upTo_cons h, after_cons h, has_cons h]
      have hne : ¬ (c.toNat : Int) = 46 := fun e => h (UInt8.toNat_inj.1 (by simp; omega))
      have hu : partOn false (upTo 46 r) = partGo false (upTo 46 r) := by simp [partOn]
      by_cases h1 : cls c.toNat = 1
      · rw [partsGo, if_pos h1, ih false, hu]
        simp [partOn, partGo, h1]
      · rw [partsGo, if_neg h1]
        by_cases h3 : cls c.toNat = 3
        · rw [if_pos h3]
          cases b
          · rw [if_neg (by simp), ih false, hu]
            simp [partOn, partGo, h3]
          · simp [partOn, partGo, h1]
        · rw [if_neg h3, if_neg hne]
          cases b <;> simp [partOn, partGo, h1, h3]
theorem partOn_true (x : List UInt8) : partOn true x = partB x := by unfold partOn partB; simp
theorem part_point {l : List UInt8} (h : l.contains 46 = true) : partB l = false := by
  have : ∀ (r : List UInt8) (f : Bool), r.contains 46 = true → partGo f r = false := by
    intro r
    induction r with
    | nil => intro f h; simp at h
    | cons c r ih =>
      intro f h
      by_cases hc : c = 46
      · subst hc
        cases f
        · rw [partGo, if_neg (by decide), if_neg (by decide), if_neg (by decide)]
        · rw [partGo, if_neg (by decide), if_pos rfl]
      · rw [has_cons hc] at h
        rw [partGo, ih false h]
        simp
  unfold partB
  rw [this l true h]; simp
theorem upTo_not {d : UInt8} {l : List UInt8} : ¬ d ∈ upTo d l := by
  induction l with
  | nil => intro h; cases h
  | cons c r ih =>
    by_cases hc : c = d
    · subst hc; rw [upTo_sep]; intro h; cases h
    · rw [upTo_cons hc]
      intro h
      rcases List.mem_cons.1 h with h | h
      · exact hc h.symm
      · exact ih h
theorem sec_two (l : List UInt8) : secB l = (l.isEmpty || (decide (l.count 46 < 2) && partsB l)) := by
  unfold secB partsB
  cases hl : l.isEmpty
  · rw [Bool.false_or, Bool.false_or, parts_cut, partOn_true]
    by_cases hc : l.contains 46 = true
    · have hw := whole_is 46 l hc
      have hn : l.count 46 = (after 46 l).count 46 + 1 := by
        have hu : (upTo 46 l).count 46 = 0 := by
          rw [List.count_eq_zero]
          intro hm
          exact upTo_not hm
        conv => lhs; rw [hw]
        rw [List.count_append, hu, List.count_cons_self]; omega
      rw [hc, hn]
      by_cases ha : (after 46 l).contains 46 = true
      · rw [part_point ha]
        have : 0 < (after 46 l).count 46 := by rw [List.count_pos_iff]; simpa using ha
        rw [decide_eq_false (by omega)]; simp
      · have ha' : (after 46 l).contains 46 = false := by simpa using ha
        have h0 : (after 46 l).count 46 = 0 := by rw [List.count_eq_zero]; simpa using ha
        rw [h0, parts_cut (after 46 l), ha', partOn_true, upTo_none ha']; simp
    · have hc' : l.contains 46 = false := by simpa using hc
      have h0 : l.count 46 = 0 := by rw [List.count_eq_zero]; simpa using hc
      rw [hc', h0]; simp
  · rfl
theorem name_parts (l : List UInt8) : ∀ (p : Nat) (b : Bool), nameGo p b l = true → partsGo b l = true := by
  induction l with
  | nil => intro p b h; simp only [nameGo, Bool.and_eq_true] at h; simpa [partsGo] using h.1
  | cons c r ih =>
    intro p b h
    rw [nameGo] at h
    rw [partsGo]
    by_cases h1 : cls c.toNat = 1
    · rw [if_pos h1] at h ⊢; exact ih _ _ h
    · rw [if_neg h1] at h ⊢
      cases b
      · rw [if_neg (by simp)] at h
        by_cases h2 : (c.toNat : Int) = 46
        · rw [if_pos h2] at h
          have h3 : ¬ cls c.toNat = 3 := by rw [h2]; decide
          rw [if_neg h3, if_pos h2, if_neg (by simp)]; exact ih _ _ h
        · rw [if_neg h2] at h
          by_cases h3 : cls c.toNat = 3
          · rw [if_pos h3] at h
            rw [if_pos h3, if_neg (by simp)]; exact ih _ _ h
          · rw [if_neg h3] at h; cases h
      · rw [if_pos rfl] at h; cases h
theorem parts_rest (a n : List UInt8) : ∀ b, partsGo b (a ++ 46 :: n) = true → partsGo true n = true := by
  induction a with
  | nil =>
    intro b h
    rw [List.nil_append, partsGo, if_neg (by decide), if_neg (by decide), if_pos (by decide)] at h
    cases b
    · simpa using h
    · simp at h
  | cons c r ih =>
    intro b h
    rw [List.cons_append, partsGo] at h
    by_cases h1 : cls c.toNat = 1
    · rw [if_pos h1] at h; exact ih _ h
    · rw [if_neg h1] at h
      by_cases h3 : cls c.toNat = 3
      · rw [if_pos h3] at h
        cases b
        · rw [if_neg (by simp)] at h; exact ih _ h
        · simp at h
      · rw [if_neg h3] at h
        by_cases h2 : (c.toNat : Int) = 46
        · rw [if_pos h2] at h
          cases b
          · rw [if_neg (by simp)] at h; exact ih _ h
          · simp at h
        · rw [if_neg h2] at h; cases h
/-- What stands ahead of names in a section. -/
def Ahead (a : List UInt8) : Prop := a = [] ∨ ∃ p, a = p ++ [46]
theorem name_rest {a n : List UInt8} (ha : Ahead a) (h : nameB (a ++ n) = true) : partsB n = true := by
  have h2 := name_parts _ _ _ (by unfold nameB at h; exact (Bool.and_eq_true_iff.1 h).2)
  rcases ha with rfl | ⟨p, rfl⟩
  · exact h2
  · rw [List.append_assoc] at h2
    exact parts_rest p n _ h2

/-! Texts -/
def bareB (l : List UInt8) : Bool := plainB l && !(l.head? == some 34)
/-- What a TEXT means, and whether it may be. -/
def docMeant (l : List UInt8) : List UInt8 × Bool :=
  if bareB l then (l, decide (l.length ≤ 200)) else match unqL l with
    | none => ([], false)
    | some t => (t, decide (t.length ≤ 200))
theorem unq_head {l : List UInt8} (h : ¬ l.head? = some 34) : unqL l = none := by
  unfold unqL
  rw [if_neg]
  intro hk
  have := of_decide_eq_true hk
  apply h
  cases l with
  | nil => simp at this
  | cons c r =>
    have hc := this.2.1
    rw [List.head?_cons]
    congr 1
    exact UInt8.toNat_inj.1 (by have : bt (c :: r) 0 = c := rfl; rw [this] at hc; simp; omega)
theorem doc_meant (l : List UInt8) : (docMeant l).2 = (meantB l).isSome ∧ ∀ u, meantB l = some u → (docMeant l).1 = u := by
  unfold docMeant meantB bareB
  by_cases hh : l.head? = some 34
  · have : (l.head? == some 34) = true := by simpa using hh
    rw [this, if_pos hh]
    simp only [Bool.not_true, Bool.and_false, Bool.false_eq_true, if_false]
    cases hu : unqL l with
    | none => exact ⟨rfl, fun u h => by cases h⟩
    | some t =>
      simp only [Option.bind_some]
      by_cases ht : t.length ≤ 200
      · rw [if_pos ht]; exact ⟨by simpa using ht, fun u h => Option.some.inj h⟩
      · rw [if_neg ht]; exact ⟨by simpa using ht, fun u h => by cases h⟩
  · have : (l.head? == some 34) = false := by simpa using hh
    rw [this, if_neg hh]
    simp only [Bool.not_false, Bool.and_true]
    by_cases hp : plainB l = true
    · rw [if_pos hp, if_pos hp]
      simp only [Option.bind_some]
      by_cases ht : l.length ≤ 200
      · rw [if_pos ht]; exact ⟨by simpa using ht, fun u h => Option.some.inj h⟩
      · rw [if_neg ht]; exact ⟨by simpa using ht, fun u h => by cases h⟩
    · rw [if_neg hp, if_neg hp, unq_head hh]
      exact ⟨rfl, fun u h => by cases h⟩
/-- What the document's own answer says of NAME = TEXT. -/
def docGiven (a x : List UInt8) : List UInt8 × List UInt8 × Bool :=
  if x.contains 61 = false then ([], [], false) else
    (a ++ trimB (upTo 61 x), (docMeant (trimB (after 61 x))).1, (docMeant (trimB (after 61 x))).2 && nameB (a ++ trimB (upTo 61 x)) && partsB (trimB (upTo 61 x)))
/-- What a line does, as the document's own answer has it. -/
theorem doc_given {num : Nat} {a x : List UInt8} {out : List LineV} (hx : tight x) (ha : Ahead a) (hs : says x = true) (h91 : ¬ x.head? = some 91) :
    stepB num (a, out) x = if (docGiven a x).2.2 = true ∧ givenB out (docGiven a x).1 = false then some (a, out ++ [⟨mkB (docGiven a x).1, mkB (docGiven a x).2.1, num⟩]) else none := by
  unfold stepB docGiven
  rw [if_neg (by simp [hs]), if_neg h91]
  by_cases hc : x.contains 61 = true
  · rw [if_neg (show ¬ x.contains 61 = false by rw [hc]; simp)]
    obtain ⟨h1, h2⟩ := doc_meant (trimB (after 61 x))
    rw [upTo_trim hx] at *
    rw [after_trim hx hc] at *
    simp only
    rw [h1]
    by_cases hn : nameB (a ++ trimR (upTo 61 x)) = true
    · have hp := name_rest ha hn
      rw [hn, hp]
      cases hm : meantB (trimL (after 61 x)) with
      | none => simp
      | some u =>
        rw [h2 u hm, hc]
        by_cases hg : givenB out (a ++ trimR (upTo 61 x)) = false
        · rw [if_pos ⟨rfl, hg, rfl⟩, if_pos ⟨by simp, hg⟩]; rfl
        · rw [if_neg (fun e => hg e.2.1), if_neg (fun e => hg e.2)]
    · have hn' : nameB (a ++ trimR (upTo 61 x)) = false := by simpa using hn
      rw [if_neg (fun e => hn e.2.2), if_neg (fun e => by rw [hn'] at e; simp at e)]
  · have hc' : x.contains 61 = false := by simpa using hc
    rw [if_pos hc', if_neg (fun e => hc e.1)]; simp
end Go.Proofs.YtbpbiakdigjcnaaDoor
