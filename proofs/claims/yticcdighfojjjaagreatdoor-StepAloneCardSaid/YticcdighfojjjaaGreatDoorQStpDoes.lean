/-
  StpDoes.
-/
import Derived.Test.YticcdighfojjjaaGreatDoorQStpMath
namespace Go.Proofs.YticcdighfojjjaaGreatDoor

/-! The functions of values -/
def dblN : List UInt8 := [100, 111, 117, 98, 108, 101]
def lowN : List UInt8 := [108, 111, 119, 101, 114]
def revN : List UInt8 := [114, 101, 118, 101, 114, 115, 101]
def trmN : List UInt8 := [116, 114, 105, 109]
def uppN : List UInt8 := [117, 112, 112, 101, 114]
def funcsB : List ByteArray := [mkB dblN, mkB lowN, mkB revN, mkB trmN, mkB uppN]
def knownB (n : ByteArray) : Bool := funcsB.any fun f => eqB f n
def blankC (c : UInt8) : Bool := decide ((c.toNat : Int) = 32 ∨ (c.toNat : Int) = 9)
def trimL (l : List UInt8) : List UInt8 := ((l.dropWhile blankC).reverse.dropWhile blankC).reverse
def raiseB (c : UInt8) : UInt8 := if 97 ≤ c.toNat ∧ c.toNat ≤ 122 then c - 32 else c
def raiseL (l : List UInt8) : List UInt8 := l.map raiseB
def doubleV (l : List UInt8) : ByteArray × Int := if numOk l = true ∧ dec l ≤ 2147483648 then (mkB (Lib.decDigits (2 * dec l)), 0) else (emB, 162)
def funcV (n : ByteArray) (l : List UInt8) : ByteArray × Int :=
  if eqB n (mkB dblN) then doubleV l else if eqB n (mkB lowN) then (mkB (foldL l), 0) else if eqB n (mkB revN) then (mkB l.reverse, 0)
  else if eqB n (mkB uppN) then (mkB (raiseL l), 0) else (mkB (trimL l), 0)
def callV (n v : ByteArray) : ByteArray × Int := if knownB n = false then (emB, 160) else if 200 < v.size then (emB, 162) else funcV n v.data.toList

/-! Steps -/
/-- A step. -/
structure StepV where
  kind : Int
  table : ByteArray
  key : ByteArray
  to : ByteArray
  text : ByteArray
def wordA (s : ByteArray) : Bool := wordB s.data.toList
def noneA (s : ByteArray) : Bool := decide (s.size = 0)
def rightS (s : StepV) : Bool :=
  wordA s.table && (
    if s.kind = 1 then wordA s.key && (noneA s.to && decide (s.text.size ≤ 200))
    else if s.kind = 2 then (wordA s.key || noneA s.key) && (noneA s.to && noneA s.text)
    else if s.kind = 3 ∨ s.kind = 6 then wordA s.key && (wordA s.to && noneA s.text)
    else if s.kind = 4 then noneA s.key && (wordA s.to && noneA s.text)
    else if s.kind = 5 then noneA s.key && (noneA s.to && knownB s.text)
    else false)
def inT (t : ByteArray) (q : PairV) : Bool := eqB q.table t
def toT (t : ByteArray) (q : PairV) : PairV := ⟨t, q.key, q.value⟩
def tabP (l : List PairV) (s : StepV) : List PairV × Int :=
  if (dropP l s.table emB).length = l.length then (l, 0)
  else if (dropP l s.to emB).length < l.length then ([], 161)
  else (((l.filter (inT s.table)).map (toT s.to)).foldl insP (dropP l s.table emB), 0)
def mapP (f t : ByteArray) : List PairV → List PairV × Int
  | [] => ([], 0)
  | q :: r => if eqB q.table t then (if (callV f q.value).2 = 0 then (if (mapP f t r).2 = 0 then (⟨q.table, q.key, (callV f q.value).1⟩ :: (mapP f t r).1, 0) else ([], (mapP f t r).2)) else ([], (callV f q.value).2))
    else if (mapP f t r).2 = 0 then (q :: (mapP f t r).1, 0) else ([], (mapP f t r).2)
def movP (l : List PairV) (s : StepV) : List PairV × Int :=
  if h : posP l s.table s.key < l.length then
    (if hasP l s.table s.to then ([], 161) else (insP (if s.kind = 3 then dropP l s.table s.key else l) ⟨s.table, s.to, l[posP l s.table s.key].value⟩, 0))
  else (l, 0)
def doesP (l : List PairV) (s : StepV) : List PairV × Int :=
  if s.kind = 1 then (if hasP l s.table s.key then ([], 161) else (insP l ⟨s.table, s.key, s.text⟩, 0))
  else if s.kind = 2 then (dropP l s.table s.key, 0)
  else if s.kind = 4 then tabP l s
  else if s.kind = 5 then mapP s.text s.table l
  else movP l s
def applyP (l : List PairV) (s : StepV) : List PairV × Int :=
  if pairsB l = false then ([], 1) else if rightS s = false then ([], 160) else if (doesP l s).2 ≠ 0 then ([], (doesP l s).2)
  else if 500 < (doesP l s).1.length then ([], 163) else ((doesP l s).1, 0)

/-! What is known of it -/
theorem mkB_inj {a b : List UInt8} (h : mkB a = mkB b) : a = b := by
  have := congrArg (fun s => s.data.toList) h
  exact this
theorem known_cases {n : ByteArray} (h : knownB n = true) : n = mkB dblN ∨ n = mkB lowN ∨ n = mkB revN ∨ n = mkB trmN ∨ n = mkB uppN := by
  unfold knownB funcsB at h
  simp only [List.any_cons, List.any_nil, Bool.or_eq_true, eqB_iff, Bool.or_false] at h
  rcases h with h | h | h | h | h <;> simp [← h]
theorem eqB_mk {a b : List UInt8} (h : a ≠ b) : eqB (mkB a) (mkB b) = false := eqB_ne fun e => h (mkB_inj e)
theorem func_low (l : List UInt8) : funcV (mkB lowN) l = (mkB (foldL l), 0) := by
  unfold funcV; rw [eqB_mk (by decide), eqB_refl]; rfl
theorem func_rev (l : List UInt8) : funcV (mkB revN) l = (mkB l.reverse, 0) := by
  unfold funcV; rw [eqB_mk (by decide), eqB_mk (by decide), eqB_refl]; rfl
theorem func_upp (l : List UInt8) : funcV (mkB uppN) l = (mkB (raiseL l), 0) := by
  unfold funcV; rw [eqB_mk (by decide), eqB_mk (by decide), eqB_mk (by decide), eqB_refl]; rfl
theorem func_trm (l : List UInt8) : funcV (mkB trmN) l = (mkB (trimL l), 0) := by
  unfold funcV; rw [eqB_mk (by decide), eqB_mk (by decide), eqB_mk (by decide), eqB_mk (by decide)]; rfl
theorem func_dbl (l : List UInt8) : funcV (mkB dblN) l = doubleV l := by
  unfold funcV; rw [eqB_refl]; rfl
theorem blank_rev (l : List UInt8) : (l.dropWhile blankC).length ≤ l.length := (List.dropWhile_sublist _).length_le
theorem trim_len (l : List UInt8) : (trimL l).length ≤ l.length := by
  unfold trimL
  rw [List.length_reverse]
  refine Nat.le_trans (blank_rev _) ?_
  rw [List.length_reverse]; exact blank_rev _
theorem dw_head (l : List UInt8) : ∀ c ∈ (l.dropWhile blankC).head?, blankC c = false := by
  induction l with
  | nil => intro c h; simp at h
  | cons a l ih =>
    rw [List.dropWhile_cons]
    split
    · exact ih
    · rename_i h
      intro c hc
      simp at hc
      subst hc; simpa using h
theorem dw_id {l : List UInt8} (h : ∀ c ∈ l.head?, blankC c = false) : l.dropWhile blankC = l := by
  cases l with
  | nil => rfl
  | cons a l => rw [List.dropWhile_cons, h a (by simp)]; simp
theorem dw_last (l : List UInt8) (h : ∀ c ∈ l.head?, blankC c = false) : ∀ c ∈ (l.reverse.dropWhile blankC).reverse.head?, blankC c = false := by
  intro c hc
  have hsuf : l.reverse.dropWhile blankC <:+ l.reverse := List.dropWhile_suffix _
  obtain ⟨t, ht⟩ := hsuf
  have e : l = (l.reverse.dropWhile blankC).reverse ++ t.reverse := by
    rw [← List.reverse_append, ht, List.reverse_reverse]
  refine h c ?_
  rw [e]
  cases e2 : (l.reverse.dropWhile blankC).reverse with
  | nil => rw [e2] at hc; simp at hc
  | cons a r => rw [e2] at hc; simp at hc; simp [hc]
theorem trim_twice (l : List UInt8) : trimL (trimL l) = trimL l := by
  have h1 : (trimL l).dropWhile blankC = trimL l := dw_id (by
    unfold trimL
    exact dw_last _ (dw_head l))
  have h2 : (trimL l).reverse.dropWhile blankC = (trimL l).reverse := dw_id (by
    unfold trimL
    rw [List.reverse_reverse]
    exact dw_head _)
  rw [show trimL (trimL l) = (((trimL l).dropWhile blankC).reverse.dropWhile blankC).reverse from rfl, h1, h2, List.reverse_reverse]
theorem fold_twice (l : List UInt8) : foldL (foldL l) = foldL l := by
  unfold foldL
  rw [List.map_map]
  refine List.map_congr_left fun c _ => ?_
  show foldB (foldB c) = foldB c
  by_cases h : cls c.toNat = 2
  · have hg := foldB_great h
    have hb := cls_great h
    refine foldB_other (fun h2 => ?_)
    have := cls_great h2
    omega
  · rw [foldB_other h, foldB_other h]
theorem raise_twice (l : List UInt8) : raiseL (raiseL l) = raiseL l := by
  unfold raiseL
  rw [List.map_map]
  refine List.map_congr_left fun c _ => ?_
  show raiseB (raiseB c) = raiseB c
  unfold raiseB
  split
  · rename_i h
    have : (c - 32).toNat = c.toNat - 32 := by rw [UInt8.toNat_sub_of_le _ _ (by rw [UInt8.le_iff_toNat_le]; exact (by have := h.1; show 32 ≤ c.toNat; omega))]; rfl
    rw [if_neg (by omega)]
  · rfl
theorem mkBlen (l : List UInt8) : (mkB l).size = l.length := by unfold mkB; simp [ByteArray.size]
/-- Of the functions that are so once and for all, and of 'reverse': what they make is no longer, and is of the same kind. -/
theorem call_ok {n v : ByteArray} (h : (callV n v).2 = 0) : knownB n = true ∧ v.size ≤ 200 ∧ callV n v = funcV n v.data.toList := by
  unfold callV at h ⊢
  split at h
  · cases h
  · rename_i h1
    split at h
    · cases h
    · rename_i h2
      exact ⟨by simpa using h1, by omega, by rw [if_neg h1, if_neg h2]⟩
theorem call_of {n v : ByteArray} (h1 : knownB n = true) (h2 : v.size ≤ 200) : callV n v = funcV n v.data.toList := by
  unfold callV; rw [if_neg (by simp [h1]), if_neg (by omega)]
theorem data_len (v : ByteArray) : v.data.toList.length = v.size := by simp
def OnceF (n : ByteArray) : Prop := n = mkB lowN ∨ n = mkB uppN ∨ n = mkB trmN
theorem call_once {n v : ByteArray} (hn : OnceF n) (h : (callV n v).2 = 0) : callV n (callV n v).1 = ((callV n v).1, 0) ∧ (callV n v).1.size ≤ 200 := by
  obtain ⟨h1, h2, h3⟩ := call_ok h
  have hl := data_len v
  rcases hn with rfl | rfl | rfl
  · rw [h3, func_low]
    have h4 : (mkB (foldL v.data.toList)).size ≤ 200 := by rw [mkBlen]; unfold foldL; rw [List.length_map]; omega
    refine ⟨?_, h4⟩
    rw [call_of h1 h4, func_low, mkB_data, fold_twice]
  · rw [h3, func_upp]
    have h4 : (mkB (raiseL v.data.toList)).size ≤ 200 := by rw [mkBlen]; unfold raiseL; rw [List.length_map]; omega
    refine ⟨?_, h4⟩
    rw [call_of h1 h4, func_upp, mkB_data, raise_twice]
  · rw [h3, func_trm]
    have h4 : (mkB (trimL v.data.toList)).size ≤ 200 := by rw [mkBlen]; have := trim_len v.data.toList; omega
    refine ⟨?_, h4⟩
    rw [call_of h1 h4, func_trm, mkB_data, trim_twice]
theorem call_rev {v : ByteArray} (h : (callV (mkB revN) v).2 = 0) : callV (mkB revN) (callV (mkB revN) v).1 = (v, 0) ∧ (callV (mkB revN) v).1.size ≤ 200 := by
  obtain ⟨h1, h2, h3⟩ := call_ok h
  have hl := data_len v
  rw [h3, func_rev]
  have h4 : (mkB v.data.toList.reverse).size ≤ 200 := by rw [mkBlen, List.length_reverse]; omega
  refine ⟨?_, h4⟩
  rw [call_of h1 h4, func_rev, mkB_data, List.reverse_reverse, mkB_self]
theorem dec_digits (u : Nat) (h : u ≤ 4294967296) : (Lib.decDigits u).length ≤ 20 := by
  have : ∀ k n, n < 10 ^ (k + 1) → (Lib.decDigits n).length ≤ k + 1 := by
    intro k
    induction k with
    | zero => intro n hn; rw [Lib.decDigits_one (by omega)]; simp
    | succ k ih =>
      intro n hn
      by_cases h : n < 10
      · rw [Lib.decDigits_one h]; simp
      · rw [Lib.decDigits, dif_neg h, List.length_append]
        have := ih (n / 10) (by rw [Nat.div_lt_iff_lt_mul (by decide)]; rw [Nat.pow_succ] at hn; exact hn)
        simp; omega
  exact this 19 u (by omega)
theorem call_size {n v : ByteArray} (h : (callV n v).2 = 0) : (callV n v).1.size ≤ 200 := by
  obtain ⟨h1, h2, h3⟩ := call_ok h
  have hl := data_len v
  rcases known_cases h1 with e | e | e | e | e
  · subst e
    rw [h3, func_dbl] at h ⊢
    unfold doubleV at h ⊢
    split at h
    · rename_i h4
      rw [if_pos h4]
      show (mkB _).size ≤ 200
      rw [mkBlen]
      have := dec_digits (2 * dec v.data.toList) (by omega)
      omega
    · cases h
  · subst e; exact (call_once (.inl rfl) h).2
  · subst e; exact (call_rev h).2
  · subst e; exact (call_once (.inr (.inr rfl)) h).2
  · subst e; exact (call_once (.inr (.inl rfl)) h).2
theorem call_err {n v : ByteArray} (hn : knownB n = true) : (callV n v).2 = 0 ∨ (callV n v).2 = 162 := by
  unfold callV
  rw [if_neg (by simp [hn])]
  split
  · exact .inr rfl
  · rcases known_cases hn with e | e | e | e | e
    · rw [e, func_dbl]; unfold doubleV; split
      · exact .inl rfl
      · exact .inr rfl
    · rw [e, func_low]; exact .inl rfl
    · rw [e, func_rev]; exact .inl rfl
    · rw [e, func_trm]; exact .inl rfl
    · rw [e, func_upp]; exact .inl rfl
end Go.Proofs.YticcdighfojjjaaGreatDoor
