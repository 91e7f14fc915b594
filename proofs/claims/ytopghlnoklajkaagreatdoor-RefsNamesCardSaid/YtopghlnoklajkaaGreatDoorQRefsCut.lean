/-
  RefsCut.
-/
import Derived.Test.YtopghlnoklajkaaGreatDoorQRefsExp
namespace Go.Proofs.YtopghlnoklajkaaGreatDoor

/-- What stands behind an opening brace, and whether there is one. -/
def openR (r : List UInt8) : List UInt8 := if r.head? = some 123 then r.tail else r
def cutOk (r : List UInt8) : Bool := decide (r.head? = some 123) && ((openR r).contains 125 && nameB (upTo 125 (openR r)))
/-- A text, cut behind what its first dollar sign begins. -/
def cutC (s : List UInt8) : List UInt8 × List UInt8 × List UInt8 × Bool :=
  if s.contains 36 = true then
    if (after 36 s).head? = some 36 then (upTo 36 s ++ [36], [], (after 36 s).tail, true)
    else (upTo 36 s, upTo 125 (openR (after 36 s)), (if (openR (after 36 s)).contains 125 then after 125 (openR (after 36 s)) else []), cutOk (after 36 s))
  else (s, [], [], true)
theorem scan_plain : ∀ (p r b : List UInt8) (l : List PcB), p.contains 36 = false → scanB (p ++ r) b l = scanB r (b ++ p) l := by
  intro p
  induction p with
  | nil => intro r b l _; simp
  | cons c p ih =>
    intro r b l h
    have hc : c ≠ 36 := fun e => by subst e; simp at h
    rw [has_cons hc] at h
    rw [List.cons_append, scanB_byte hc, ih _ _ _ h, List.append_assoc]
    rfl
theorem upTo_clean (d : UInt8) (l : List UInt8) : (upTo d l).contains d = false := contains_no fun c hc => by
  have := List.all_eq_true.1 (List.all_takeWhile (l := l) (p := (· != d))) c hc
  simpa using this
theorem nameB_nil : nameB [] = false := by decide
/-- One cut more of what is scanned. -/
theorem scan_cut (s b : List UInt8) (l : List PcB) : scanB s b l = if (cutC s).2.2.2 = true then (if (cutC s).2.1 = [] then scanB (cutC s).2.2.1 (b ++ (cutC s).1) l else scanB (cutC s).2.2.1 [] (l ++ [(b ++ (cutC s).1, false), ((cutC s).2.1, true)])) else none := by
  unfold cutC
  by_cases h : s.contains 36 = true
  · rw [if_pos h]
    have hw := whole_is 36 s h
    have h1 : scanB s b l = scanB (36 :: after 36 s) (b ++ upTo 36 s) l := by
      conv => lhs; rw [hw]
      exact scan_plain _ _ _ _ (upTo_clean 36 s)
    rw [h1]
    generalize after 36 s = r
    generalize upTo 36 s = p
    by_cases h2 : r.head? = some 36
    · rw [if_pos h2]
      cases r with
      | nil => cases h2
      | cons c r =>
        rw [List.head?_cons] at h2
        obtain rfl := Option.some.inj h2
        simp only [if_pos, List.tail_cons]
        rw [scanB_two, List.append_assoc]
    · rw [if_neg h2]
      simp only
      cases r with
      | nil =>
        have : cutOk [] = false := by decide
        rw [this, if_neg (by decide)]
        exact scanB_end _ _
      | cons c r =>
        rw [List.head?_cons] at h2
        have hc : c ≠ 36 := fun e => h2 (by rw [e])
        by_cases hb : c = 123
        · subst hb
          have ho : openR (123 :: r) = r := by unfold openR; rw [if_pos (by rfl)]; rfl
          unfold cutOk
          rw [ho, show decide ((123 :: r).head? = some (123 : UInt8)) = true from rfl, Bool.true_and]
          cases hd : r.contains 125 with
          | false =>
            rw [scanB_open hd, Bool.false_and, if_neg (by decide)]
          | true =>
            cases hn : nameB (upTo 125 r) with
            | false => rw [scanB_no hn, Bool.true_and, if_neg (by decide)]
            | true =>
              rw [scanB_ref hd hn, Bool.true_and, if_pos rfl, if_neg (fun e => by rw [e, nameB_nil] at hn; cases hn), if_pos rfl]
        · have : cutOk (c :: r) = false := by
            unfold cutOk
            rw [List.head?_cons, decide_eq_false (fun e => hb (Option.some.inj e)), Bool.false_and]
          rw [this, if_neg (by decide)]
          exact scanB_bad hc hb _ _ _
  · rw [if_neg h]
    simp only [Bool.not_eq_true] at h
    simp only [if_pos]
    have := scan_plain s [] b l h
    rw [List.append_nil] at this
    exact this
theorem tail_len (l : List UInt8) : l.tail.length ≤ l.length := by rw [List.length_tail]; omega
theorem after_less {d : UInt8} {l : List UInt8} (h : l.contains d = true) : (after d l).length < l.length := by
  have := congrArg List.length (whole_is d l h)
  rw [List.length_append, List.length_cons] at this
  omega
theorem openR_len (r : List UInt8) : (openR r).length ≤ r.length := by
  unfold openR
  split
  · exact tail_len r
  · omega
theorem upTo_len (d : UInt8) (l : List UInt8) : (upTo d l).length ≤ l.length := (List.takeWhile_sublist _).length_le
/-- What is left is shorter. -/
theorem cut_less {s : List UInt8} (h : s ≠ []) : (cutC s).2.2.1.length < s.length := by
  unfold cutC
  by_cases hc : s.contains 36 = true
  · rw [if_pos hc]
    have h1 := after_less hc
    split
    · have := tail_len (after 36 s)
      simp only; omega
    · simp only
      split
      · rename_i h2
        have := after_less h2
        have := openR_len (after 36 s)
        omega
      · cases s with
        | nil => exact absurd rfl h
        | cons c r => simp
  · rw [if_neg hc]
    cases s with
    | nil => exact absurd rfl h
    | cons c r => simp
theorem cut_len (s : List UInt8) : (cutC s).1.length ≤ s.length ∧ (cutC s).2.1.length ≤ s.length ∧ (cutC s).2.2.1.length ≤ s.length := by
  unfold cutC
  by_cases hc : s.contains 36 = true
  · rw [if_pos hc]
    have h1 := after_less hc
    have h0 := congrArg List.length (whole_is 36 s hc)
    rw [List.length_append, List.length_cons] at h0
    split
    · have := tail_len (after 36 s)
      simp only [List.length_append, List.length_singleton, List.length_nil]; omega
    · have h2 := openR_len (after 36 s)
      have h3 := upTo_len 125 (openR (after 36 s))
      have h4 := after_len 125 (openR (after 36 s))
      simp only
      refine ⟨by omega, by omega, ?_⟩
      split
      · omega
      · simp
  · rw [if_neg hc]; simp
theorem addN_has (ts : List (List UInt8)) (n : List UInt8) : addN ts n = if ts.contains n = true then ts else ts ++ [n] := rfl
/-- What Names answers, when the pieces are known. -/
def namesR : Option (List PcB) → List (List UInt8) × Int
  | none => ([], 100)
  | some l => (namesL l, 0)
/-- Names so far; what is left; the answer. -/
def NmInv (s : List UInt8) (ts : List (List UInt8)) (R : List (List UInt8) × Int) : Prop := ∃ b l, ts = namesL l ∧ namesR (scanB s b l) = R
theorem NmInv.start (s : List UInt8) : NmInv s [] (namesB s) := ⟨[], [], rfl, by
  unfold namesB piecesB
  cases scanB s [] [] <;> rfl⟩
section
variable {s p nm r : List UInt8} {ts : List (List UInt8)} {R : List (List UInt8) × Int}
theorem NmInv.bad (h : NmInv s ts R) (hc : cutC s = (p, nm, r, false)) : R = ([], 100) := by
  obtain ⟨b, l, _, h2⟩ := h
  rw [scan_cut, hc, if_neg (by simp)] at h2
  exact h2.symm
theorem NmInv.plain (h : NmInv s ts R) (hc : cutC s = (p, [], r, true)) : NmInv r ts R := by
  obtain ⟨b, l, h1, h2⟩ := h
  rw [scan_cut, hc, if_pos rfl, if_pos rfl] at h2
  exact ⟨_, _, h1, h2⟩
theorem NmInv.ref (h : NmInv s ts R) (hc : cutC s = (p, nm, r, true)) (hn : nm ≠ []) : NmInv r (addN ts nm) R := by
  obtain ⟨b, l, h1, h2⟩ := h
  rw [scan_cut, hc, if_pos rfl, if_neg hn] at h2
  refine ⟨_, _, ?_, h2⟩
  rw [h1]
  unfold namesL
  rw [List.foldl_append]
  rfl
theorem NmInv.end_ (h : NmInv [] ts R) : R = (ts, 0) := by
  obtain ⟨b, l, h1, h2⟩ := h
  rw [scanB_nil] at h2
  rw [← h2, h1]
  unfold namesR namesL
  simp only [List.foldl_append]
  rfl
end
/-! Expansions, where those of what is spoken of are known -/
/-- What a piece stands for; K: what is known, by names. -/
def pieceK (K : List UInt8 → List UInt8 × Bool) (p : PcB) : List UInt8 := if p.2 = true then (K p.1).1 else p.1
def flatK (K : List UInt8 → List UInt8 × Bool) (l : List PcB) : List UInt8 := l.flatMap (pieceK K)
def longK (K : List UInt8 → List UInt8 × Bool) (l : List PcB) : Bool := l.any fun p => p.2 && (K p.1).2
def resK (K : List UInt8 → List UInt8 × Bool) (l : List PcB) : List UInt8 × Bool := if (longK K l || decide (200 < (flatK K l).length)) = true then ([], true) else (flatK K l, false)
theorem flatK_app (K : List UInt8 → List UInt8 × Bool) (a b : List PcB) : flatK K (a ++ b) = flatK K a ++ flatK K b := by unfold flatK; rw [List.flatMap_append]
theorem longK_app (K : List UInt8 → List UInt8 × Bool) (a b : List PcB) : longK K (a ++ b) = (longK K a || longK K b) := by unfold longK; rw [List.any_append]
/-- What is scanned begins with what was there. -/
theorem scanP_ext : ∀ (f : Nat) (r b : List UInt8) (l out : List PcB), scanP f r b l = some out → ∃ x m, out = l ++ (b ++ x, false) :: m := by
  intro f
  induction f with
  | zero => intro r b l out h; exact ⟨[], [], by rw [← Option.some.inj h]; simp⟩
  | succ f ih =>
    intro r b l out h
    cases r with
    | nil => exact ⟨[], [], by rw [← Option.some.inj h]; simp⟩
    | cons c r =>
      unfold scanP at h
      split at h
      · cases r with
        | nil => cases h
        | cons d r' =>
          simp only at h
          split at h
          · obtain ⟨x, m, e⟩ := ih _ _ _ _ h
            exact ⟨36 :: x, m, by rw [e]; simp⟩
          · split at h
            · split at h
              · obtain ⟨x, m, e⟩ := ih _ _ _ _ h
                exact ⟨[], (upTo 125 r', true) :: ([] ++ x, false) :: m, by rw [e]; simp⟩
              · cases h
            · cases h
      · obtain ⟨x, m, e⟩ := ih _ _ _ _ h
        exact ⟨c :: x, m, by rw [e]; simp⟩
theorem scan_ext {r b : List UInt8} {l out : List PcB} (h : scanB r b l = some out) : ∃ x m, out = l ++ (b ++ x, false) :: m := scanP_ext _ _ _ _ _ h
/-- An expansion so far; what is left; the answer. -/
def ExInv (K : List UInt8 → List UInt8 × Bool) (s out : List UInt8) (R : List UInt8 × Bool) : Prop := ∃ b l l', scanB s b l = some l' ∧ out = flatK K l ++ b ∧ longK K l = false ∧ out.length ≤ 200 ∧ resK K l' = R
section
variable {K : List UInt8 → List UInt8 × Bool} {s out p nm r : List UInt8} {ok : Bool} {R : List UInt8 × Bool} {l : List PcB}
theorem ExInv.start (h : piecesB s = some l) : ExInv K s [] (resK K l) := ⟨[], [], l, h, rfl, rfl, by simp, rfl⟩
theorem res_ext {b x : List UInt8} {m l0 : List PcB} (h : l = l0 ++ (b ++ x, false) :: m) (hl : longK K l0 = true ∨ 200 < (flatK K l0 ++ b).length) : resK K l = ([], true) := by
  unfold resK
  have h1 : (longK K l || decide (200 < (flatK K l).length)) = true := by
    rw [h, longK_app, flatK_app]
    rcases hl with hl | hl
    · rw [hl]; rfl
    · have h2 : flatK K ((b ++ x, false) :: m) = b ++ x ++ flatK K m := by unfold flatK; rw [List.flatMap_cons]; rfl
      rw [h2, decide_eq_true, Bool.or_true]
      simp only [List.length_append] at hl ⊢
      omega
  rw [if_pos h1]
theorem ExInv.step (h : ExInv K s out R) (hK : K [] = ([], false)) (hc : cutC s = (p, nm, r, ok)) : ok = true ∧ (((K nm).2 = true ∨ 200 < (out ++ p ++ (K nm).1).length) → R = ([], true)) ∧ ((K nm).2 = false → (out ++ p ++ (K nm).1).length ≤ 200 → ExInv K r (out ++ p ++ (K nm).1) R) := by
  obtain ⟨b, l, l', h1, h2, h3, h4, h5⟩ := h
  rw [scan_cut, hc] at h1
  simp only at h1
  cases ok with
  | false => rw [if_neg (by decide)] at h1; cases h1
  | true =>
    rw [if_pos rfl] at h1
    refine ⟨rfl, fun hl => ?_, fun hk hz => ?_⟩
    · rw [← h5]
      by_cases hn : nm = []
      · rw [if_pos hn] at h1
        obtain ⟨x, m, e⟩ := scan_ext h1
        rw [hn, hK] at hl
        rcases hl with hl | hl
        · cases hl
        · exact res_ext e (.inr (by rw [List.append_nil, h2] at hl; rw [← List.append_assoc]; exact hl))
      · rw [if_neg hn] at h1
        obtain ⟨x, m, e⟩ := scan_ext h1
        refine res_ext e ?_
        rcases hl with hl | hl
        · left
          rw [longK_app]
          have : longK K [(b ++ p, false), (nm, true)] = true := by unfold longK; simp [hl]
          rw [this, Bool.or_true]
        · right
          rw [h2] at hl
          rw [flatK_app]
          have : flatK K [(b ++ p, false), (nm, true)] = b ++ p ++ (K nm).1 := by unfold flatK pieceK; simp
          rw [this]
          simp only [List.length_append] at hl ⊢
          simp only [List.length_nil]
          omega
    · by_cases hn : nm = []
      · rw [if_pos hn] at h1
        rw [hn, hK, List.append_nil] at hz ⊢
        exact ⟨b ++ p, l, l', h1, by rw [h2, List.append_assoc], h3, hz, h5⟩
      · rw [if_neg hn] at h1
        refine ⟨[], _, l', h1, ?_, ?_, hz, h5⟩
        · rw [h2, flatK_app, List.append_nil]
          have : flatK K [(b ++ p, false), (nm, true)] = b ++ p ++ (K nm).1 := by unfold flatK pieceK; simp
          rw [this]
          simp
        · rw [longK_app, h3, Bool.false_or]
          unfold longK
          simp [hk]
theorem ExInv.end_ (h : ExInv K [] out R) : R = (out, false) := by
  obtain ⟨b, l, l', h1, h2, h3, h4, h5⟩ := h
  rw [scanB_nil] at h1
  rw [← h5, ← Option.some.inj h1]
  unfold resK
  have hf : flatK K (l ++ [(b, false)]) = out := by rw [flatK_app, h2]; unfold flatK pieceK; simp
  have hl : longK K (l ++ [(b, false)]) = false := by rw [longK_app, h3]; unfold longK; simp
  rw [hf, hl, Bool.false_or, decide_eq_false (by omega), if_neg (by decide)]
end
end Go.Proofs.YtopghlnoklajkaaGreatDoor
