/-
  ValueWord, ValueMath, StpMath.
-/
import Derived.Test.YticcdighfojjjaaGreatDoorQGlyphNames2
import Derived.Lib.ItoaNum
import Derived.Lib.SplitLaws
import Derived.Lib.Join
import Derived.Test.YticcdighfojjjaaGreatDoorQGlyphFold

namespace Go.Proofs.YticcdighfojjjaaGreatDoor

def isD (c : UInt8) : Bool := decide (48 ≤ c.toNat ∧ c.toNat ≤ 57)
def decS (n : Nat) (c : UInt8) : Nat := n * 10 + (c.toNat - 48)
def decAcc (n : Nat) (l : List UInt8) : Nat := l.foldl decS n
theorem decAcc_nil (n : Nat) : decAcc n [] = n := by unfold decAcc; rw [List.foldl_nil]
theorem decAcc_cons (n : Nat) (c : UInt8) (r : List UInt8) : decAcc n (c :: r) = decAcc (decS n c) r := by unfold decAcc; rw [List.foldl_cons]
theorem decS_eq (n : Nat) (c : UInt8) : decS n c = n * 10 + (c.toNat - 48) := by simp only [decS]
def dec (l : List UInt8) : Nat := decAcc 0 l
def numOk (l : List UInt8) : Bool := l.all isD && (match l with | [] => false | c :: r => c != 48 || r.isEmpty)

theorem decAcc_ge (n : Nat) (l : List UInt8) : n ≤ decAcc n l := by
  induction l generalizing n with
  | nil => rw [decAcc_nil]; exact Nat.le_refl _
  | cons c r ih =>
    rw [decAcc_cons]
    have := ih (decS n c)
    rw [decS_eq] at this ⊢
    omega
theorem decAcc_append (n : Nat) (a b : List UInt8) : decAcc n (a ++ b) = decAcc (decAcc n a) b := by
  unfold decAcc; rw [List.foldl_append]
/-! Units -/
/-! What is read -/
def mkB (l : List UInt8) : ByteArray := ⟨l.toArray⟩
theorem mkB_data (l : List UInt8) : (mkB l).data.toList = l := rfl
theorem mkB_self (s : ByteArray) : mkB s.data.toList = s := by unfold mkB; simp
/-! What may be, and what is printed -/
end Go.Proofs.YticcdighfojjjaaGreatDoor

namespace Go.Proofs.YticcdighfojjjaaGreatDoor

/-! The order of texts -/
theorem lessT_irrefl : ∀ a : List UInt8, Op.bytesLess a a = false
  | [] => rfl
  | x :: a => by unfold Op.bytesLess; rw [lessT_irrefl a]; simp
theorem lessT_trans : ∀ a b c : List UInt8, Op.bytesLess a b = true → Op.bytesLess b c = true → Op.bytesLess a c = true
  | _, _, [], _, h => by unfold Op.bytesLess at h; exact absurd h (by simp)
  | [], _, _ :: _, _, _ => rfl
  | _ :: _, [], _ :: _, h, _ => absurd h (by unfold Op.bytesLess; simp)
  | x :: a, y :: b, z :: c, h, k => by
    unfold Op.bytesLess at h k ⊢
    simp only [Bool.or_eq_true, Bool.and_eq_true, decide_eq_true_eq, beq_iff_eq] at h k ⊢
    rcases h with h | ⟨rfl, h⟩
    · rcases k with k | ⟨rfl, k⟩
      · exact .inl (UInt8.lt_trans h k)
      · exact .inl h
    · rcases k with k | ⟨rfl, k⟩
      · exact .inl k
      · exact .inr ⟨rfl, lessT_trans a b c h k⟩
theorem lessT_tri : ∀ a b : List UInt8, Op.bytesLess a b = false → Op.bytesLess b a = false → a = b
  | [], [], _, _ => rfl
  | [], _ :: _, h, _ => absurd h (by unfold Op.bytesLess; simp)
  | _ :: _, [], _, h => absurd h (by unfold Op.bytesLess; simp)
  | x :: a, y :: b, h, k => by
    unfold Op.bytesLess at h k
    simp only [Bool.or_eq_false_iff, Bool.and_eq_false_iff, decide_eq_false_iff_not, beq_eq_false_iff_ne] at h k
    have e : x = y := UInt8.le_antisymm (UInt8.not_lt.1 k.1) (UInt8.not_lt.1 h.1)
    subst e
    rw [lessT_tri a b (h.2.resolve_left (fun h => h rfl)) (k.2.resolve_left (fun h => h rfl))]

def ltB (a b : ByteArray) : Bool := Op.bytesLess a.toList b.toList
def eqB (a b : ByteArray) : Bool := a.toList == b.toList
theorem bytes_ext {a b : ByteArray} (h : a.toList = b.toList) : a = b := by
  rw [Lib.toList_data, Lib.toList_data] at h
  rw [← mkB_self a, h, mkB_self]
theorem eqB_iff {a b : ByteArray} : eqB a b = true ↔ a = b := by
  unfold eqB
  rw [beq_iff_eq]
  exact ⟨bytes_ext, fun h => by rw [h]⟩
theorem eqB_refl (a : ByteArray) : eqB a a = true := eqB_iff.2 rfl
theorem eqB_ne {a b : ByteArray} (h : a ≠ b) : eqB a b = false := by
  cases e : eqB a b with
  | false => rfl
  | true => exact absurd (eqB_iff.1 e) h
theorem ltB_irrefl (a : ByteArray) : ltB a a = false := lessT_irrefl _
theorem ltB_trans {a b c : ByteArray} (h : ltB a b = true) (k : ltB b c = true) : ltB a c = true := lessT_trans _ _ _ h k
theorem ltB_tri {a b : ByteArray} (h : ltB a b = false) (k : ltB b a = false) : a = b := bytes_ext (lessT_tri _ _ h k)

/-! Pairs -/
/-- A pair. -/
structure PairV where
  table : ByteArray
  key : ByteArray
  value : ByteArray
instance : Inhabited PairV := ⟨⟨⟨#[]⟩, ⟨#[]⟩, ⟨#[]⟩⟩⟩
def lessP (p q : PairV) : Bool := ltB p.table q.table || (eqB p.table q.table && ltB p.key q.key)
def isP (t k : ByteArray) (q : PairV) : Bool := eqB q.table t && eqB q.key k
theorem isP_iff {t k : ByteArray} {q : PairV} : isP t k q = true ↔ q.table = t ∧ q.key = k := by
  unfold isP; rw [Bool.and_eq_true, eqB_iff, eqB_iff]
theorem lessP_irrefl (p : PairV) : lessP p p = false := by unfold lessP; rw [ltB_irrefl, ltB_irrefl]; simp
theorem lessP_trans {p q r : PairV} (h : lessP p q = true) (k : lessP q r = true) : lessP p r = true := by
  unfold lessP at *
  simp only [Bool.or_eq_true, Bool.and_eq_true, eqB_iff] at *
  rcases h with h | ⟨h1, h2⟩
  · rcases k with k | ⟨k1, k2⟩
    · exact .inl (ltB_trans h k)
    · exact .inl (k1 ▸ h)
  · rcases k with k | ⟨k1, k2⟩
    · exact .inl (h1 ▸ k)
    · exact .inr ⟨h1.trans k1, ltB_trans h2 k2⟩
theorem lessP_tri {p q : PairV} (h : lessP p q = false) (k : lessP q p = false) : q.table = p.table ∧ q.key = p.key := by
  unfold lessP at *
  simp only [Bool.or_eq_false_iff, Bool.and_eq_false_iff] at *
  have e := ltB_tri h.1 k.1
  rw [e] at h k
  have h2 : ltB p.key q.key = false := h.2.resolve_left (by rw [eqB_refl]; simp)
  have k2 : ltB q.key p.key = false := k.2.resolve_left (by rw [eqB_refl]; simp)
  exact ⟨e.symm, (ltB_tri h2 k2).symm⟩
theorem lessP_key {p q r : PairV} (h1 : q.table = r.table) (h2 : q.key = r.key) : lessP p q = lessP p r := by unfold lessP; rw [h1, h2]
theorem lessP_key' {p q r : PairV} (h1 : q.table = r.table) (h2 : q.key = r.key) : lessP q p = lessP r p := by unfold lessP; rw [h1, h2]
/-- No two of them are of the same table and key, and they rise. -/
def Rise (l : List PairV) : Prop := l.Pairwise fun p q => lessP p q = true
theorem rise_ext : ∀ {a b : List PairV}, Rise a → Rise b → (∀ x, x ∈ a ↔ x ∈ b) → a = b
  | [], [], _, _, _ => rfl
  | [], q :: _, _, _, h => absurd ((h q).2 (by simp)) (by simp)
  | p :: _, [], _, _, h => absurd ((h p).1 (by simp)) (by simp)
  | p :: a, q :: b, ha, hb, h => by
    have ha' := List.pairwise_cons.1 ha
    have hb' := List.pairwise_cons.1 hb
    have e : p = q := by
      rcases List.mem_cons.1 ((h p).1 (by simp)) with e | e
      · exact e
      rcases List.mem_cons.1 ((h q).2 (by simp)) with e2 | e2
      · exact e2.symm
      have := lessP_trans (ha'.1 _ e2) (hb'.1 _ e)
      rw [lessP_irrefl] at this; cases this
    subst e
    congr 1
    refine rise_ext ha'.2 hb'.2 fun x => ⟨fun hx => ?_, fun hx => ?_⟩
    · rcases List.mem_cons.1 ((h x).1 (List.mem_cons_of_mem _ hx)) with e | e
      · subst e
        have := ha'.1 _ hx
        rw [lessP_irrefl] at this; cases this
      · exact e
    · rcases List.mem_cons.1 ((h x).2 (List.mem_cons_of_mem _ hx)) with e | e
      · subst e
        have := hb'.1 _ hx
        rw [lessP_irrefl] at this; cases this
      · exact e
theorem rise_one {l : List PairV} (h : Rise l) {p q : PairV} (hp : p ∈ l) (hq : q ∈ l) (h1 : p.table = q.table) (h2 : p.key = q.key) : p = q := by
  unfold Rise at h
  induction l with
  | nil => cases hp
  | cons a l ih =>
    have h' := List.pairwise_cons.1 h
    rcases List.mem_cons.1 hp with ep | hp2
    · rcases List.mem_cons.1 hq with eq | hq2
      · rw [ep, eq]
      · have := h'.1 _ hq2
        rw [← ep, ← lessP_key h1 h2, lessP_irrefl] at this; cases this
    · rcases List.mem_cons.1 hq with eq | hq2
      · have := h'.1 _ hp2
        rw [← eq, lessP_key h1 h2, lessP_irrefl] at this; cases this
      · exact ih h'.2 hp2 hq2
def risesP : List PairV → Bool
  | [] => true
  | p :: r => (match r with | [] => true | q :: _ => lessP p q) && risesP r
theorem rises_iff : ∀ l : List PairV, risesP l = true ↔ Rise l
  | [] => by simp [risesP, Rise]
  | [p] => by simp [risesP, Rise]
  | p :: q :: r => by
    have ih := rises_iff (q :: r)
    unfold risesP
    rw [Bool.and_eq_true, ih]
    unfold Rise
    rw [List.pairwise_cons (a := p)]
    refine and_congr_left fun h => ⟨fun h1 x hx => ?_, fun h1 => h1 q (by simp)⟩
    rcases List.mem_cons.1 hx with rfl | hx
    · exact h1
    · exact lessP_trans h1 ((List.pairwise_cons.1 h).1 _ hx)
def okP (p : PairV) : Bool := wordB p.table.data.toList && wordB p.key.data.toList && decide (p.value.size ≤ 200)
def pairsB (l : List PairV) : Bool := decide (l.length ≤ 500) && (l.all okP && risesP l)
theorem pairsB_iff {l : List PairV} : pairsB l = true ↔ l.length ≤ 500 ∧ (∀ p ∈ l, okP p = true) ∧ Rise l := by
  unfold pairsB; rw [Bool.and_eq_true, Bool.and_eq_true, rises_iff, List.all_eq_true, decide_eq_true_iff]

/-! What is done with pairs -/
def insP (l : List PairV) (p : PairV) : List PairV := l.takeWhile (fun q => lessP q p) ++ p :: l.dropWhile (fun q => lessP q p)
def keepP (t k : ByteArray) (q : PairV) : Bool := !eqB q.table t || (!decide (k.size = 0) && !eqB q.key k)
def dropP (l : List PairV) (t k : ByteArray) : List PairV := l.filter (keepP t k)
def posP (l : List PairV) (t k : ByteArray) : Nat := (l.takeWhile fun q => !isP t k q).length
def hasP (l : List PairV) (t k : ByteArray) : Bool := l.any (isP t k)
theorem ins_len (l : List PairV) (p : PairV) : (insP l p).length = l.length + 1 := by
  unfold insP
  have := congrArg List.length (List.takeWhile_append_dropWhile (p := fun q => lessP q p) (l := l))
  rw [List.length_append] at this
  rw [List.length_append, List.length_cons]; omega
theorem mem_ins {l : List PairV} {p x : PairV} : x ∈ insP l p ↔ x = p ∨ x ∈ l := by
  unfold insP
  have : x ∈ l ↔ x ∈ l.takeWhile (fun q => lessP q p) ∨ x ∈ l.dropWhile (fun q => lessP q p) := by
    rw [← List.mem_append, List.takeWhile_append_dropWhile]
  rw [this, List.mem_append, List.mem_cons]
  constructor
  · rintro (h | h | h) <;> simp [h]
  · rintro (h | h | h) <;> simp [h]
theorem tw_less {p : PairV} : ∀ {l : List PairV} {x : PairV}, x ∈ l.takeWhile (fun q => lessP q p) → lessP x p = true
  | [], _, h => by simp at h
  | q :: l, x, h => by
    rw [List.takeWhile_cons] at h
    split at h
    · rename_i h1
      rcases List.mem_cons.1 h with rfl | h
      · exact h1
      · exact tw_less h
    · simp at h
theorem dw_more {p : PairV} : ∀ {l : List PairV}, Rise l → (∀ q ∈ l, ¬ (q.table = p.table ∧ q.key = p.key)) → ∀ {x : PairV}, x ∈ l.dropWhile (fun q => lessP q p) → lessP p x = true
  | [], _, _, _, h => by simp at h
  | q :: l, hl, hn, x, h => by
    rw [List.dropWhile_cons] at h
    split at h
    · exact dw_more (List.pairwise_cons.1 hl).2 (fun q hq => hn q (List.mem_cons_of_mem _ hq)) h
    · rename_i h1
      have hq : lessP p q = true := by
        cases e : lessP p q with
        | true => rfl
        | false => exact absurd (lessP_tri e (by simpa using h1)) (hn q (by simp))
      rcases List.mem_cons.1 h with rfl | h
      · exact hq
      · exact lessP_trans hq ((List.pairwise_cons.1 hl).1 _ h)
theorem rise_ins {l : List PairV} {p : PairV} (hl : Rise l) (hn : ∀ q ∈ l, ¬ (q.table = p.table ∧ q.key = p.key)) : Rise (insP l p) := by
  unfold Rise insP
  rw [List.pairwise_append]
  refine ⟨List.Pairwise.sublist (List.takeWhile_sublist _) hl, List.pairwise_cons.2 ⟨fun x hx => dw_more hl hn hx, List.Pairwise.sublist (List.dropWhile_sublist _) hl⟩, fun a ha b hb => ?_⟩
  rcases List.mem_cons.1 hb with rfl | hb
  · exact tw_less ha
  · exact lessP_trans (tw_less ha) (dw_more hl hn hb)
theorem rise_filter {l : List PairV} (f : PairV → Bool) (hl : Rise l) : Rise (l.filter f) := List.Pairwise.sublist List.filter_sublist hl
theorem keepP_no {t k : ByteArray} (hk : k.size ≠ 0) {q : PairV} : keepP t k q = true ↔ ¬ (q.table = t ∧ q.key = k) := by
  unfold keepP
  rw [decide_eq_false hk]
  by_cases h1 : q.table = t
  · by_cases h2 : q.key = k
    · simp [h1, h2, eqB_refl]
    · simp [h1, h2, eqB_refl, eqB_ne h2]
  · simp [h1, eqB_ne h1]
def emB : ByteArray := ⟨#[]⟩
theorem keepP_all {t : ByteArray} {q : PairV} : keepP t emB q = true ↔ ¬ q.table = t := by
  unfold keepP
  rw [decide_eq_true (show emB.size = 0 from rfl)]
  by_cases h1 : q.table = t
  · simp [h1, eqB_refl]
  · simp [h1, eqB_ne h1]
theorem hasP_iff {l : List PairV} {t k : ByteArray} : hasP l t k = true ↔ ∃ q ∈ l, q.table = t ∧ q.key = k := by
  unfold hasP; rw [List.any_eq_true]
  exact ⟨fun ⟨q, h1, h2⟩ => ⟨q, h1, isP_iff.1 h2⟩, fun ⟨q, h1, h2⟩ => ⟨q, h1, isP_iff.2 h2⟩⟩
theorem hasP_no {l : List PairV} {t k : ByteArray} (h : hasP l t k = false) : ∀ q ∈ l, ¬ (q.table = t ∧ q.key = k) := fun q hq hk => by
  rw [hasP_iff.2 ⟨q, hq, hk⟩] at h; cases h
theorem posP_lt {l : List PairV} {t k : ByteArray} : posP l t k < l.length ↔ hasP l t k = true := by
  unfold posP hasP
  induction l with
  | nil => simp
  | cons q l ih =>
    rw [List.takeWhile_cons, List.any_cons]
    cases h : isP t k q
    · simp [ih]
    · simp
theorem posP_at {l : List PairV} {t k : ByteArray} : ∀ (h : posP l t k < l.length), isP t k l[posP l t k] = true := by
  unfold posP
  induction l with
  | nil => intro h; simp at h
  | cons q l ih =>
    intro h
    by_cases hq : isP t k q = true
    · simp [hq]
    · have hq' : isP t k q = false := by simpa using hq
      simp only [List.takeWhile_cons, hq', Bool.not_false, if_true, List.length_cons, List.getElem_cons_succ] at h ⊢
      exact ih (by omega)
end Go.Proofs.YticcdighfojjjaaGreatDoor
