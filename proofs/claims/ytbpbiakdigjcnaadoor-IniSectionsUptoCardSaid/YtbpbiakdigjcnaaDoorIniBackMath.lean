/-
  Plain facts of layer 6: what is printed is read as it; blanks at the ends of lines change nothing; sections change nothing but the numbers. No model in this text.
-/
import Derived.Test.YtbpbiakdigjcnaaDoorIniWeigh
import Derived.Test.YtbpbiakdigjcnaaDoorGlyphMath
namespace Go.Proofs.YtbpbiakdigjcnaaDoor

/-! Names -/
theorem parts_bytes : ∀ (l : List UInt8) (b : Bool), partsGo b l = true → ∀ c ∈ l, cls c.toNat = 1 ∨ cls c.toNat = 3 ∨ (c.toNat : Int) = 46
  | [], _, _, c, hc => by cases hc
  | d :: r, b, h, c, hc => by
    rw [partsGo] at h
    by_cases h1 : cls d.toNat = 1
    · rw [if_pos h1] at h
      rcases List.mem_cons.1 hc with rfl | hc
      · exact .inl h1
      · exact parts_bytes r _ h c hc
    · rw [if_neg h1] at h
      by_cases h3 : cls d.toNat = 3
      · rw [if_pos h3] at h
        cases b
        · rw [if_neg (by simp)] at h
          rcases List.mem_cons.1 hc with rfl | hc
          · exact .inr (.inl h3)
          · exact parts_bytes r _ h c hc
        · simp at h
      · rw [if_neg h3] at h
        by_cases h2 : (d.toNat : Int) = 46
        · rw [if_pos h2] at h
          cases b
          · rw [if_neg (by simp)] at h
            rcases List.mem_cons.1 hc with rfl | hc
            · exact .inr (.inr h2)
            · exact parts_bytes r _ h c hc
          · simp at h
        · rw [if_neg h2] at h; cases h
theorem parts_head {l : List UInt8} (h : partsB l = true) : ∃ c r, l = c :: r ∧ cls c.toNat = 1 := by
  cases l with
  | nil => cases h
  | cons c r =>
    refine ⟨c, r, rfl, ?_⟩
    unfold partsB at h
    rw [partsGo] at h
    by_cases h1 : cls c.toNat = 1
    · exact h1
    · rw [if_neg h1] at h
      by_cases h3 : cls c.toNat = 3
      · rw [if_pos h3] at h; simp at h
      · rw [if_neg h3] at h
        by_cases h2 : (c.toNat : Int) = 46
        · rw [if_pos h2] at h; simp at h
        · rw [if_neg h2] at h; cases h
theorem good_not {c : UInt8} (h : cls c.toNat = 1 ∨ cls c.toNat = 3 ∨ (c.toNat : Int) = 46) : c ≠ 10 ∧ c ≠ 61 ∧ c ≠ 91 ∧ c ≠ 59 ∧ c ≠ 35 ∧ isBl c = false := by
  refine ⟨?_, ?_, ?_, ?_, ?_, ?_⟩
  · rintro rfl; revert h; decide
  · rintro rfl; revert h; decide
  · rintro rfl; revert h; decide
  · rintro rfl; revert h; decide
  · rintro rfl; revert h; decide
  · rw [isBl_is, decide_eq_false]
    rintro (e | e)
    · rw [e] at h; revert h; decide
    · rw [e] at h; revert h; decide
theorem name_partsB {l : List UInt8} (h : nameB l = true) : partsB l = true := name_rest (a := []) (.inl rfl) h
theorem name_len {l : List UInt8} (h : nameB l = true) : l.length ≤ 32 := by
  unfold nameB at h
  exact of_decide_eq_true (Bool.and_eq_true_iff.1 h).1
theorem upTo_app {d : UInt8} {l : List UInt8} (h : d ∉ l) (r : List UInt8) : upTo d (l ++ d :: r) = l := by
  induction l with
  | nil => exact upTo_sep d r
  | cons c y ih =>
    rw [List.cons_append, upTo_cons (fun e => h (by rw [e]; exact List.mem_cons_self ..)), ih (fun hm => h (List.mem_cons_of_mem _ hm))]
theorem after_app {d : UInt8} {l : List UInt8} (h : d ∉ l) (r : List UInt8) : after d (l ++ d :: r) = r := by
  induction l with
  | nil => exact after_sep d r
  | cons c y ih =>
    rw [List.cons_append, after_cons (fun e => h (by rw [e]; exact List.mem_cons_self ..)), ih (fun hm => h (List.mem_cons_of_mem _ hm))]

/-! Texts as they stand -/
theorem stand_ne (t : List UInt8) : standL t ≠ [] := by
  unfold standL
  split
  · rename_i h; exact h.1
  · unfold quoteL; simp
theorem quote_ends (t : List UInt8) : (quoteL t).head? = some 34 ∧ (quoteL t).getLast? = some 34 := by
  unfold quoteL
  exact ⟨by simp, List.getLast?_concat⟩
theorem bl34 : isBl 34 = false := by decide
theorem stand_tight (t : List UInt8) : tight (standL t) := by
  unfold standL
  split
  · rename_i h
    have := trimB_tight t
    rw [h.2.1] at this; exact this
  · obtain ⟨h1, h2⟩ := quote_ends t
    refine ⟨fun c hc => ?_, fun c hc => ?_⟩
    · rw [h1] at hc; cases hc; exact bl34
    · rw [h2] at hc; cases hc; exact bl34
theorem stand_print (t : List UInt8) (d : UInt8) (h : d ∈ standL t) : 32 ≤ (d.toNat : Int) ∧ (d.toNat : Int) ≤ 126 := by
  unfold standL at h
  split at h
  · rename_i hb
    have hp := hb.2.2
    unfold bareB plainB at hp
    rw [Bool.and_eq_true, List.all_eq_true] at hp
    exact printB_yes (hp.1 d h)
  · exact quote_print t d h
theorem meant_stand {t : List UInt8} (h : t.length ≤ 200) : meantB (standL t) = some t := by
  unfold meantB standL
  split
  · rename_i hb
    have hp := hb.2.2
    unfold bareB at hp
    rw [Bool.and_eq_true] at hp
    have hq : ¬ t.head? = some 34 := by simpa using hp.2
    simp only
    rw [if_neg hq, if_pos hp.1]
    simp [h]
  · simp only
    rw [if_pos (quote_ends t).1, unq_quote]
    simp [h]

/-! A line that is laid down -/
def lineB (nm t : List UInt8) : List UInt8 := (nm ++ [32, 61, 32]) ++ standL t
theorem line_form (nm t : List UInt8) : lineB nm t = (nm ++ [32]) ++ 61 :: (32 :: standL t) := by unfold lineB; simp
theorem no61 {nm : List UInt8} (hp : partsB nm = true) : (61 : UInt8) ∉ nm ++ [32] := by
  intro h
  rcases List.mem_append.1 h with h | h
  · exact (good_not (parts_bytes nm _ hp _ h)).2.1 rfl
  · simp at h
theorem line_no10 {nm : List UInt8} (t : List UInt8) (hp : partsB nm = true) : (10 : UInt8) ∉ lineB nm t := by
  intro h
  rcases List.mem_append.1 h with h | h
  · rcases List.mem_append.1 h with h | h
    · exact (good_not (parts_bytes nm _ hp _ h)).1 rfl
    · simp at h
  · have := stand_print t _ h
    revert this; decide
theorem line_tight {nm : List UInt8} (t : List UInt8) (hp : partsB nm = true) : tight (lineB nm t) := by
  obtain ⟨c, r, rfl, h1⟩ := parts_head hp
  refine ⟨fun d hd => ?_, fun d hd => ?_⟩
  · have : d = c := by unfold lineB at hd; simpa using hd.symm
    rw [this]
    exact (good_not (.inl h1)).2.2.2.2.2
  · unfold lineB at hd
    rw [List.getLast?_append] at hd
    have hne := stand_ne t
    cases hs : (standL t).getLast? with
    | none => exact absurd (List.getLast?_eq_none_iff.1 hs) hne
    | some e =>
      rw [hs] at hd
      have : e = d := by simpa using hd
      rw [← this]
      exact (stand_tight t).2 e hs
theorem trimR_name {nm : List UInt8} (hp : partsB nm = true) : trimR (nm ++ [32]) = nm := by
  rw [trimR_bl (by decide)]
  apply trimR_self
  intro c hc
  exact (good_not (parts_bytes nm _ hp c (List.mem_of_getLast? hc))).2.2.2.2.2
theorem trimL_text (t : List UInt8) : trimL (32 :: standL t) = standL t := by
  rw [trimL_bl (by decide)]
  exact trimL_self (stand_tight t).1
theorem line_step {a nm t : List UInt8} {out : List LineV} (num : Nat) (hp : partsB nm = true) (hn : nameB (a ++ nm) = true) (hg : givenB out (a ++ nm) = false) (ht : t.length ≤ 200) :
    stepB num (a, out) (trimB (lineB nm t)) = some (a, out ++ [⟨mkB (a ++ nm), mkB t, num⟩]) := by
  rw [tight_trim (line_tight t hp)]
  have hh : ∃ c, (lineB nm t).head? = some c ∧ cls c.toNat = 1 := by
    obtain ⟨c, r, rfl, h1⟩ := parts_head hp
    exact ⟨c, by unfold lineB; simp, h1⟩
  obtain ⟨c, hc, h1⟩ := hh
  obtain ⟨n10, n61, n91, n59, n35, nb⟩ := good_not (.inl h1)
  have hsay : says (lineB nm t) = true := by
    unfold says
    rw [hc]
    have he : (lineB nm t).isEmpty = false := by
      cases hx : lineB nm t with
      | nil => rw [hx] at hc; cases hc
      | cons _ _ => rfl
    rw [he]
    simp [n59, n35]
  have hcon : (lineB nm t).contains 61 = true := by rw [line_form]; simp
  have hu : upTo 61 (lineB nm t) = nm ++ [32] := by rw [line_form, upTo_app (no61 hp)]
  have ha : after 61 (lineB nm t) = 32 :: standL t := by rw [line_form, after_app (no61 hp)]
  unfold stepB
  rw [if_neg (by rw [hsay]; simp), if_neg (by rw [hc]; simpa using n91)]
  simp only
  rw [hu, ha, trimR_name hp, trimL_text, if_pos ⟨hcon, hg, hn⟩, meant_stand ht]
  rfl
/-! What is printed is read -/
/-- Lines, numbered. -/
def numL (k : Nat) : List LineV → List LineV
  | [] => []
  | l :: r => ⟨l.name, l.text, k⟩ :: numL (k + 1) r
theorem given_app (out : List LineV) (l : LineV) (nm : List UInt8) : givenB (out ++ [l]) nm = (givenB out nm || decide (l.name.data.toList = nm)) := by unfold givenB; simp
/-- Lines that may be printed. -/
def okGo (done : List LineV) : List LineV → Prop
  | [] => True
  | l :: r => givenB done l.name.data.toList = false ∧ nameB l.name.data.toList = true ∧ l.text.size ≤ 200 ∧ okGo (done ++ [l]) r
theorem printGo_ok : ∀ (rest done : List LineV) (b r : List UInt8), printGo done b rest = some r → okGo done rest ∧ r = b ++ rest.flatMap entryL ∧ (b.length ≤ 8000 → r.length ≤ 8000)
  | [], done, b, r, h => by
    rw [printGo] at h
    cases h
    exact ⟨trivial, by simp, fun h => h⟩
  | l :: rest, done, b, r, h => by
    rw [printGo] at h
    split at h
    · rename_i hk
      obtain ⟨h1, h2, h3⟩ := printGo_ok rest _ _ _ h
      exact ⟨⟨hk.1, hk.2.1, hk.2.2.1, h1⟩, by rw [h2]; simp, fun _ => h3 hk.2.2.2⟩
    · cases h
theorem entry_line (l : LineV) : entryL l = lineB l.name.data.toList l.text.data.toList ++ [10] := rfl
theorem ok_run : ∀ (rest done out : List LineV) (k : Nat), okGo done rest → (∀ nm, givenB out nm = givenB done nm) → runB k ([], out) (cuts 10 (rest.flatMap entryL)) = .inr (out ++ numL k rest)
  | [], done, out, k, _, _ => by
    show runB k ([], out) [[]] = _
    rw [runB, show trimB [] = [] from rfl, stepB, if_pos (by rfl)]
    simp [runB, numL]
  | l :: rest, done, out, k, h, hg => by
    obtain ⟨h1, h2, h3, h4⟩ := h
    have hp := name_partsB h2
    rw [List.flatMap_cons, entry_line, List.append_assoc, List.singleton_append, cuts_line (line_no10 _ hp), runB]
    rw [line_step k (a := []) hp h2 (by rw [List.nil_append, hg]; exact h1) (by simpa using h3)]
    simp only
    rw [List.nil_append, mkB_self, mkB_self, ok_run rest (done ++ [l]) _ (k + 1) h4 (fun nm => by rw [given_app, given_app, hg])]
    simp [numL]
theorem print_read {ls : List LineV} {b : List UInt8} (h : printF ls = some b) : parseB b = (numL 1 ls, 0, 0) ∧ b.length ≤ 8000 := by
  obtain ⟨h1, h2, h3⟩ := printGo_ok ls [] [] b h
  have h8 := h3 (by simp)
  rw [List.nil_append] at h2
  refine ⟨?_, h8⟩
  unfold parseB
  rw [if_neg (by omega), h2, ok_run ls [] [] 1 h1 (fun _ => rfl)]
  rfl

/-! What a file gives -/
theorem run_num : ∀ (xs : List (List UInt8)) (k n : Nat) (st : List UInt8 × List LineV), runB k st xs = .inl n → k ≤ n
  | [], k, n, st, h => by cases h
  | x :: r, k, n, st, h => by
    rw [runB] at h
    split at h
    · cases h; exact Nat.le_refl _
    · have := run_num r _ _ _ h; omega
theorem parse_err {s : List UInt8} {o : List LineV} {e n : Int} (h : parseB s = (o, e, n)) : (e = 0 ∧ n = 0) ∨ (o = [] ∧ (e = 61 ∧ n = 0 ∧ 8000 < s.length ∨ e = 60 ∧ 1 ≤ n)) := by
  unfold parseB at h
  split at h
  · rename_i h8
    simp only [Prod.mk.injEq] at h
    obtain ⟨rfl, rfl, rfl⟩ := h
    exact .inr ⟨rfl, .inl ⟨rfl, rfl, h8⟩⟩
  · split at h
    · rename_i m hm
      simp only [Prod.mk.injEq] at h
      obtain ⟨rfl, rfl, rfl⟩ := h
      have := run_num _ _ _ _ hm
      exact .inr ⟨rfl, .inr ⟨rfl, by omega⟩⟩
    · simp only [Prod.mk.injEq] at h
      obtain ⟨rfl, rfl, rfl⟩ := h
      exact .inl ⟨rfl, rfl⟩
def small (l : LineV) : Prop := l.name.size ≤ 32 ∧ l.text.size ≤ 200
theorem meant_small {t u : List UInt8} (h : meantB t = some u) : u.length ≤ 200 := by
  unfold meantB at h
  obtain ⟨v, _, hv⟩ := Option.bind_eq_some_iff.1 h
  split at hv
  · cases hv; assumption
  · cases hv
theorem step_small {num : Nat} {st st' : List UInt8 × List LineV} {x : List UInt8} (h : stepB num st x = some st') (hs : ∀ l ∈ st.2, small l) : (∀ l ∈ st'.2, small l) ∧ st'.2.length ≤ st.2.length + 1 := by
  unfold stepB at h
  split at h
  · cases h; exact ⟨hs, by omega⟩
  · split at h
    · obtain ⟨a, _, rfl⟩ := Option.map_eq_some_iff.1 h
      exact ⟨hs, by simp⟩
    · split at h
      · rename_i hk
        obtain ⟨t, ht, rfl⟩ := Option.map_eq_some_iff.1 h
        refine ⟨fun l hl => ?_, by simp⟩
        rcases List.mem_append.1 hl with hl | hl
        · exact hs l hl
        · obtain rfl := List.mem_singleton.1 hl
          have h1 := name_len hk.2.2
          have h2 := meant_small ht
          exact ⟨by rw [len_mkB]; exact h1, by rw [len_mkB]; exact h2⟩
      · cases h
theorem run_small : ∀ (xs : List (List UInt8)) (k : Nat) (st : List UInt8 × List LineV) (out : List LineV), runB k st xs = .inr out → (∀ l ∈ st.2, small l) → (∀ l ∈ out, small l) ∧ out.length ≤ st.2.length + xs.length
  | [], k, st, out, h, hs => by cases h; exact ⟨hs, by simp⟩
  | x :: r, k, st, out, h, hs => by
    rw [runB] at h
    split at h
    · cases h
    · rename_i st' he
      obtain ⟨h1, h2⟩ := step_small he hs
      obtain ⟨h3, h4⟩ := run_small r _ _ _ h h1
      exact ⟨h3, by simp only [List.length_cons]; omega⟩
theorem parse_small {s : List UInt8} {o : List LineV} {e n : Int} (h : parseB s = (o, e, n)) : (∀ l ∈ o, small l) ∧ o.length ≤ 8001 := by
  unfold parseB at h
  split at h
  · obtain ⟨rfl, _⟩ := Prod.mk.inj h
    exact ⟨(fun l hl => by cases hl), by simp⟩
  · rename_i h8
    split at h
    · obtain ⟨rfl, _⟩ := Prod.mk.inj h
      exact ⟨(fun l hl => by cases hl), by simp⟩
    · rename_i out ho
      obtain ⟨rfl, _⟩ := Prod.mk.inj h
      obtain ⟨h1, h2⟩ := run_small _ _ _ _ ho (fun l hl => by cases hl)
      refine ⟨h1, ?_⟩
      rw [cuts_count] at h2
      have := List.count_le_length (a := (10 : UInt8)) (l := s)
      simp at h2
      omega

/-! Blanks at the ends of lines -/
def padF (s : List UInt8) : List UInt8 := s.flatMap fun c => if c = 10 then [9, 10, 32] else [c]
def padB (s : List UInt8) : List UInt8 := ([32, 9] ++ padF s) ++ [32]
theorem padF_len (s : List UInt8) : s.length ≤ (padF s).length := by
  induction s with
  | nil => simp
  | cons c r ih =>
    unfold padF at ih ⊢
    rw [List.flatMap_cons, List.length_append, List.length_cons]
    have : 1 ≤ (if c = 10 then ([9, 10, 32] : List UInt8) else [c]).length := by split <;> simp
    omega
theorem trim_front {c : UInt8} {l : List UInt8} (h : isBl c = true) : trimB (c :: l) = trimB l := by rw [trimB_is, trimB_is, trimL_bl h]
theorem trimB_of_R {p q : List UInt8} (h : trimR p = trimR q) : trimB p = trimB q := by
  show trimL (trimR p) = trimL (trimR q)
  rw [h]
theorem pad_cuts (s : List UInt8) : ∃ p ps q qs, cuts 10 s = p :: ps ∧ cuts 10 (padF s ++ [32]) = q :: qs ∧ trimR q = trimR p ∧ qs.map trimB = ps.map trimB := by
  induction s with
  | nil => exact ⟨[], [], [32], [], rfl, rfl, rfl, rfl⟩
  | cons c r ih =>
    obtain ⟨p, ps, q, qs, h1, h2, h3, h4⟩ := ih
    by_cases h : c = 10
    · subst h
      refine ⟨[], p :: ps, [9], (32 :: q) :: qs, by rw [cuts_sep, h1], ?_, rfl, ?_⟩
      · have e : padF (10 :: r) = 9 :: 10 :: 32 :: padF r := rfl
        rw [e]
        show cuts 10 (9 :: 10 :: 32 :: (padF r ++ [32])) = _
        rw [cuts, if_neg (by decide), cuts_sep, cuts, if_neg (by decide), h2]
      · rw [List.map_cons, List.map_cons, trim_front (by decide), trimB_of_R h3, h4]
    · refine ⟨c :: p, ps, c :: q, qs, by rw [cuts, if_neg h, h1], ?_, ?_, h4⟩
      · have e : padF (c :: r) = c :: padF r := by unfold padF; rw [List.flatMap_cons, if_neg h]; rfl
        rw [e, List.cons_append, cuts, if_neg h, h2]
      · rw [trimR_front, trimR_front, h3]
theorem run_trim : ∀ (xs ys : List (List UInt8)) (k : Nat) (st : List UInt8 × List LineV), xs.map trimB = ys.map trimB → runB k st xs = runB k st ys
  | [], [], _, _, _ => rfl
  | [], _ :: _, _, _, h => by cases h
  | _ :: _, [], _, _, h => by cases h
  | x :: xs, y :: ys, k, st, h => by
    obtain ⟨h1, h2⟩ := List.cons.inj h
    rw [runB, runB, h1]
    split
    · rfl
    · exact run_trim xs ys _ _ h2
theorem pad_read {s : List UInt8} (h : (padB s).length ≤ 8000) : parseB (padB s) = parseB s := by
  obtain ⟨p, ps, q, qs, h1, h2, h3, h4⟩ := pad_cuts s
  have hl := padF_len s
  have hl2 : (padB s).length = (padF s).length + 3 := by unfold padB; simp
  have hc : cuts 10 (padB s) = (32 :: 9 :: q) :: qs := by
    unfold padB
    rw [List.append_assoc]
    show cuts 10 (32 :: 9 :: (padF s ++ [32])) = _
    rw [cuts, if_neg (by decide), cuts, if_neg (by decide), h2]
  unfold parseB
  rw [if_neg (by omega), if_neg (by omega), hc, h1, run_trim ((32 :: 9 :: q) :: qs) (p :: ps) 1 ([], []) (by
    rw [List.map_cons, List.map_cons, trim_front (by decide), trim_front (by decide), trimB_of_R h3, h4])]

/-! Sections -/
theorem name_ahead (s n : List UInt8) : ∀ (p : Nat) (b : Bool), nameGo p b (s ++ 46 :: n) = true → partsGo b s = true ∧ p + s.count 46 + 1 ≤ 3 := by
  have hle : ∀ (l : List UInt8) (p : Nat) (b : Bool), nameGo p b l = true → p ≤ 3 := by
    intro l
    induction l with
    | nil => intro p b h; rw [nameGo, Bool.and_eq_true] at h; exact of_decide_eq_true h.2
    | cons c r ih =>
      intro p b h
      rw [nameGo] at h
      split at h
      · exact ih _ _ h
      · split at h
        · cases h
        · split at h
          · have := ih _ _ h; omega
          · split at h
            · exact ih _ _ h
            · cases h
  induction s with
  | nil =>
    intro p b h
    rw [List.nil_append, nameGo, if_neg (by decide)] at h
    cases b
    · rw [if_neg (by simp), if_pos (by decide)] at h
      have := hle _ _ _ h
      exact ⟨rfl, by simpa using this⟩
    · simp at h
  | cons c r ih =>
    intro p b h
    rw [List.cons_append, nameGo] at h
    rw [partsGo]
    by_cases h1 : cls c.toNat = 1
    · rw [if_pos h1] at h ⊢
      have hc : c ≠ 46 := by rintro rfl; revert h1; decide
      rw [List.count_cons_of_ne (by simpa using hc)]
      exact ih _ _ h
    · rw [if_neg h1] at h ⊢
      cases b
      · rw [if_neg (by simp)] at h
        by_cases h2 : (c.toNat : Int) = 46
        · rw [if_pos h2] at h
          have h3 : ¬ cls c.toNat = 3 := by rw [h2]; decide
          have hc : c = 46 := UInt8.toNat_inj.1 (by simp; omega)
          rw [if_neg h3, if_pos h2, if_neg (by simp)]
          subst hc
          rw [List.count_cons_self]
          obtain ⟨a, b⟩ := ih _ _ h
          exact ⟨a, by omega⟩
        · rw [if_neg h2] at h
          have hc : c ≠ 46 := by rintro rfl; exact h2 rfl
          by_cases h3 : cls c.toNat = 3
          · rw [if_pos h3] at h
            rw [if_pos h3, if_neg (by simp), List.count_cons_of_ne (by simpa using hc)]
            exact ih _ _ h
          · rw [if_neg h3] at h; cases h
      · rw [if_pos rfl] at h; cases h
theorem sec_of_name {s n : List UInt8} (h : nameB (s ++ 46 :: n) = true) : secB s = true ∧ s ≠ [] ∧ partsB s = true := by
  unfold nameB at h
  obtain ⟨h1, h2⟩ := name_ahead s n 1 true (Bool.and_eq_true_iff.1 h).2
  refine ⟨?_, ?_, h1⟩
  · rw [sec_two, show partsB s = true from h1]
    have : s.count 46 < 2 := by omega
    simp [this]
  · rintro rfl; cases h1
def secL (s : List UInt8) : List UInt8 := 91 :: (s ++ [93])
theorem sec_step {a s : List UInt8} {out : List LineV} (num : Nat) (h : secB s = true) : stepB num (a, out) (trimB (secL s)) = some (if s.isEmpty then [] else s ++ [46], out) := by
  have ht : tight (secL s) := by
    refine ⟨fun c hc => ?_, fun c hc => ?_⟩
    · unfold secL at hc; cases hc; decide
    · unfold secL at hc
      rw [← List.cons_append, List.getLast?_concat] at hc
      cases hc; decide
  rw [tight_trim ht]
  unfold stepB
  rw [if_neg (by unfold says secL; simp), if_pos (by unfold secL; rfl)]
  unfold secOf secL
  simp [h]
/-- A name cut in two: what stands in a section, and the rest. -/
def Halves (nm : List UInt8) (q : List UInt8 × List UInt8) : Prop := (q.1 = [] ∧ q.2 = nm) ∨ nm = q.1 ++ 46 :: q.2
def secEntry (l : LineV) (q : List UInt8 × List UInt8) : List UInt8 := secL q.1 ++ 10 :: (lineB q.2 l.text.data.toList ++ [10])
/-- Lines, numbered by two. -/
def numS (k : Nat) : List LineV → List LineV
  | [] => []
  | l :: r => ⟨l.name, l.text, k + 1⟩ :: numS (k + 2) r
def secAll : List LineV → List (List UInt8 × List UInt8) → List UInt8
  | l :: r, q :: qs => secEntry l q ++ secAll r qs
  | _, _ => []
theorem secs_run : ∀ (rest done out : List LineV) (qs : List (List UInt8 × List UInt8)) (k : Nat) (a : List UInt8), okGo done rest → qs.length = rest.length → (∀ i (h : i < rest.length) (h2 : i < qs.length), Halves rest[i].name.data.toList qs[i]) → (∀ nm, givenB out nm = givenB done nm) →
    runB k (a, out) (cuts 10 (secAll rest qs)) = .inr (out ++ numS k rest)
  | [], done, out, qs, k, a, _, _, _, _ => by
    have : secAll [] qs = [] := by unfold secAll; cases qs <;> rfl
    rw [this]
    show runB k (a, out) [[]] = _
    rw [runB, show trimB [] = [] from rfl, stepB, if_pos (by rfl)]
    simp [runB, numS]
  | l :: rest, done, out, [], k, a, _, hl, _, _ => by cases hl
  | l :: rest, done, out, q :: qs, k, a, h, hl, hq, hg => by
    obtain ⟨h1, h2, h3, h4⟩ := h
    have hq0 : Halves l.name.data.toList q := hq 0 (by simp) (by simp)
    have hsec : secB q.1 = true ∧ partsB q.2 = true ∧ (if q.1.isEmpty then [] else q.1 ++ [46]) ++ q.2 = l.name.data.toList ∧ (10 : UInt8) ∉ secL q.1 := by
      rcases hq0 with ⟨e1, e2⟩ | e
      · rw [e1, e2]
        exact ⟨rfl, name_partsB h2, by simp, by decide⟩
      · rw [e] at h2
        obtain ⟨s1, s2, s3⟩ := sec_of_name h2
        refine ⟨s1, name_rest (a := q.1 ++ [46]) (.inr ⟨_, rfl⟩) (by rw [List.append_assoc]; exact h2), ?_, ?_⟩
        · have : q.1.isEmpty = false := by simpa using s2
          rw [this, e]; simp
        · intro hm
          unfold secL at hm
          rcases List.mem_cons.1 hm with hm | hm
          · revert hm; decide
          · rcases List.mem_append.1 hm with hm | hm
            · exact (good_not (parts_bytes _ _ s3 _ hm)).1 rfl
            · simp at hm
    obtain ⟨g1, g2, g3, g4⟩ := hsec
    rw [secAll, secEntry, List.append_assoc, List.cons_append, cuts_line g4, runB, sec_step k g1]
    simp only
    rw [List.append_assoc, List.singleton_append, cuts_line (line_no10 _ g2), runB]
    rw [line_step (k + 1) g2 (by rw [g3]; exact h2) (by rw [g3, hg]; exact h1) (by simpa using h3)]
    simp only
    rw [g3, mkB_self, mkB_self, secs_run rest (done ++ [l]) _ qs (k + 2) _ h4 (by simpa using hl) (fun i h h' => by
      have := hq (i + 1) (by simpa using h) (by simpa using h')
      simpa using this) (fun nm => by rw [given_app, given_app, hg])]
    simp [numS]
theorem secs_read {ls : List LineV} {b : List UInt8} {qs : List (List UInt8 × List UInt8)} (h : printF ls = some b) (hl : qs.length = ls.length) (hq : ∀ i (h : i < ls.length) (h2 : i < qs.length), Halves ls[i].name.data.toList qs[i]) (h8 : (secAll ls qs).length ≤ 8000) :
    parseB (secAll ls qs) = (numS 1 ls, 0, 0) := by
  obtain ⟨h1, _, _⟩ := printGo_ok ls [] [] b h
  unfold parseB
  rw [if_neg (by omega), secs_run ls [] [] qs 1 [] h1 hl hq (fun _ => rfl)]
  rfl

/-! Weights -/
theorem capB_in (n : Nat) : 0 ≤ capB n ∧ capB n ≤ 2147483648 := by unfold capB; omega
theorem capB_le {n : Nat} (h : capB n ≤ 2147483647) : n ≤ 2147483647 := by unfold capB at h; omega
theorem addI_le {a b : Int} (ha : 0 ≤ a) (hb : 0 ≤ b) (h : addI a b ≤ 2147483647) : a ≤ 2147483647 ∧ b ≤ 2147483647 := by rw [addI_cap] at h; omega
end Go.Proofs.YtbpbiakdigjcnaaDoor
