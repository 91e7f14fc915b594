/-
  GlyphNames2, ValueWord, ValueMath, GlyphFold, StpMath.
-/
import Derived.Test.YtlommddabccdeaaGreatDoorQGlyphNames
import Derived.Lib.ItoaNum
import Derived.Lib.SplitLaws
import Derived.Lib.Join
import Derived.Test.YtlommddabccdeaaGreatDoorQBytes
namespace Go.Proofs.YtlommddabccdeaaGreatDoor
open Go.ChangeShapes Go.WideShapes Go.ChangeAt Go.RowKit

end Go.Proofs.YtlommddabccdeaaGreatDoor


namespace Go.Proofs.YtlommddabccdeaaGreatDoor

/-! Units -/
/-! What is read -/
def mkB (l : List UInt8) : ByteArray := ⟨l.toArray⟩
theorem mkB_self (s : ByteArray) : mkB s.data.toList = s := by unfold mkB; simp
/-! What may be, and what is printed -/
end Go.Proofs.YtlommddabccdeaaGreatDoor

namespace Go.Proofs.YtlommddabccdeaaGreatDoor
open Go.ChangeShapes Go.WideShapes Go.ChangeAt Go.RowKit

end Go.Proofs.YtlommddabccdeaaGreatDoor

namespace Go.Proofs.YtlommddabccdeaaGreatDoor

/-! The order of texts -/
theorem lessT_irrefl : ∀ a : List UInt8, Op.bytesLess a a = false
 | [] => rfl
 | x :: a => by unfold Op.bytesLess; rw [lessT_irrefl a]; simp
theorem lessT_trans : ∀ a b c : List UInt8, Op.bytesLess a b = true → Op.bytesLess b c = true → Op.bytesLess a c = true
 | _, _, [], _, h => by unfold Op.bytesLess at h; exact absurd h (by simp)
 | [], _, _ :: _, _, _ => rfl
 | _ :: _, [], _ :: _, h, _ => absurd h (by unfold Op.bytesLess; simp)
 | x :: a, y :: b, z :: c, h, k => by
  unfold Op.bytesLess at h k ⊢
  simp only [Bool.or_eq_true, Bool.and_eq_true, decide_eq_true_eq, beq_iff_eq] at h k ⊢
  rcases h with h | ⟨rfl, h⟩
  ·rcases k with k | ⟨rfl, k⟩
   ·exact .inl (UInt8.lt_trans h k)
   ·exact .inl h
  ·rcases k with k | ⟨rfl, k⟩
   ·exact .inl k
   ·exact .inr ⟨rfl, lessT_trans a b c h k⟩
theorem lessT_tri : ∀ a b : List UInt8, Op.bytesLess a b = false → Op.bytesLess b a = false → a = b
 | [], [], _, _ => rfl
 | [], _ :: _, h, _ => absurd h (by unfold Op.bytesLess; simp)
 | _ :: _, [], _, h => absurd h (by unfold Op.bytesLess; simp)
 | x :: a, y :: b, h, k => by
  unfold Op.bytesLess at h k
  simp only [Bool.or_eq_false_iff, Bool.and_eq_false_iff, decide_eq_false_iff_not, beq_eq_false_iff_ne] at h k
  have e : x = y := UInt8.le_antisymm (UInt8.not_lt.1 k.1) (UInt8.not_lt.1 h.1)
  subst e
  rw [lessT_tri a b (h.2.resolve_left (fun h => h rfl)) (k.2.resolve_left (fun h => h rfl))]

def ltB (a b : ByteArray) : Bool := Op.bytesLess a.toList b.toList
def eqB (a b : ByteArray) : Bool := a.toList == b.toList
theorem bytes_ext {a b : ByteArray} (h : a.toList = b.toList) : a = b := by
 rw [Lib.toList_data, Lib.toList_data] at h
 rw [← mkB_self a, h, mkB_self]
theorem eqB_iff {a b : ByteArray} : eqB a b = true ↔ a = b := by
 unfold eqB
 rw [beq_iff_eq]
 exact ⟨bytes_ext, fun h => by rw [h]⟩
theorem eqB_refl (a : ByteArray) : eqB a a = true := eqB_iff.2 rfl
theorem eqB_ne {a b : ByteArray} (h : a ≠ b) : eqB a b = false := by
 cases e : eqB a b with
 | false => rfl
 | true => exact absurd (eqB_iff.1 e) h
theorem ltB_irrefl (a : ByteArray) : ltB a a = false := lessT_irrefl _
theorem ltB_trans {a b c : ByteArray} (h : ltB a b = true) (k : ltB b c = true) : ltB a c = true := lessT_trans _ _ _ h k
theorem ltB_tri {a b : ByteArray} (h : ltB a b = false) (k : ltB b a = false) : a = b := bytes_ext (lessT_tri _ _ h k)

/-! Pairs -/
structure PairV where
 table : ByteArray
 key : ByteArray
 value : ByteArray
instance : Inhabited PairV := ⟨⟨⟨#[]⟩, ⟨#[]⟩, ⟨#[]⟩⟩⟩
def lessP (p q : PairV) : Bool := ltB p.table q.table || (eqB p.table q.table && ltB p.key q.key)
def isP (t k : ByteArray) (q : PairV) : Bool := eqB q.table t && eqB q.key k
theorem isP_iff {t k : ByteArray} {q : PairV} : isP t k q = true ↔ q.table = t ∧ q.key = k := by
 unfold isP; rw [Bool.and_eq_true, eqB_iff, eqB_iff]
theorem lessP_irrefl (p : PairV) : lessP p p = false := by unfold lessP; rw [ltB_irrefl, ltB_irrefl]; simp
theorem lessP_trans {p q r : PairV} (h : lessP p q = true) (k : lessP q r = true) : lessP p r = true := by
 unfold lessP at *
 simp only [Bool.or_eq_true, Bool.and_eq_true, eqB_iff] at *
 rcases h with h | ⟨h1, h2⟩
 ·rcases k with k | ⟨k1, k2⟩
  ·exact .inl (ltB_trans h k)
  ·exact .inl (k1 ▸ h)
 ·rcases k with k | ⟨k1, k2⟩
  ·exact .inl (h1 ▸ k)
  ·exact .inr ⟨h1.trans k1, ltB_trans h2 k2⟩
theorem lessP_tri {p q : PairV} (h : lessP p q = false) (k : lessP q p = false) : q.table = p.table ∧ q.key = p.key := by
 unfold lessP at *
 simp only [Bool.or_eq_false_iff, Bool.and_eq_false_iff] at *
 have e := ltB_tri h.1 k.1
 rw [e] at h k
 have h2 : ltB p.key q.key = false := h.2.resolve_left (by rw [eqB_refl]; simp)
 have k2 : ltB q.key p.key = false := k.2.resolve_left (by rw [eqB_refl]; simp)
 exact ⟨e.symm, (ltB_tri h2 k2).symm⟩
theorem lessP_key {p q r : PairV} (h1 : q.table = r.table) (h2 : q.key = r.key) : lessP p q = lessP p r := by unfold lessP; rw [h1, h2]
theorem lessP_key' {p q r : PairV} (h1 : q.table = r.table) (h2 : q.key = r.key) : lessP q p = lessP r p := by unfold lessP; rw [h1, h2]
def Rise (l : List PairV) : Prop := l.Pairwise fun p q => lessP p q = true
theorem rise_ext : ∀ {a b : List PairV}, Rise a → Rise b → (∀ x, x ∈ a ↔ x ∈ b) → a = b
 | [], [], _, _, _ => rfl
 | [], q :: _, _, _, h => absurd ((h q).2 (by simp)) (by simp)
 | p :: _, [], _, _, h => absurd ((h p).1 (by simp)) (by simp)
 | p :: a, q :: b, ha, hb, h => by
  have ha' := List.pairwise_cons.1 ha
  have hb' := List.pairwise_cons.1 hb
  have e : p = q := by
   rcases List.mem_cons.1 ((h p).1 (by simp)) with e | e
   ·exact e
   rcases List.mem_cons.1 ((h q).2 (by simp)) with e2 | e2
   ·exact e2.symm
   have := lessP_trans (ha'.1 _ e2) (hb'.1 _ e)
   rw [lessP_irrefl] at this; cases this
  subst e
  congr 1
  refine rise_ext ha'.2 hb'.2 fun x => ⟨fun hx => ?_, fun hx => ?_⟩
  ·rcases List.mem_cons.1 ((h x).1 (List.mem_cons_of_mem _ hx)) with e | e
   ·subst e
    have := ha'.1 _ hx
    rw [lessP_irrefl] at this; cases this
   ·exact e
  ·rcases List.mem_cons.1 ((h x).2 (List.mem_cons_of_mem _ hx)) with e | e
   ·subst e
    have := hb'.1 _ hx
    rw [lessP_irrefl] at this; cases this
   ·exact e
theorem rise_one {l : List PairV} (h : Rise l) {p q : PairV} (hp : p ∈ l) (hq : q ∈ l) (h1 : p.table = q.table) (h2 : p.key = q.key) : p = q := by
 unfold Rise at h
 induction l with
 | nil => cases hp
 | cons a l ih =>
  have h' := List.pairwise_cons.1 h
  rcases List.mem_cons.1 hp with ep | hp2
  ·rcases List.mem_cons.1 hq with eq | hq2
   ·rw [ep, eq]
   ·have := h'.1 _ hq2
    rw [← ep, ← lessP_key h1 h2, lessP_irrefl] at this; cases this
  ·rcases List.mem_cons.1 hq with eq | hq2
   ·have := h'.1 _ hp2
    rw [← eq, lessP_key h1 h2, lessP_irrefl] at this; cases this
   ·exact ih h'.2 hp2 hq2
def okP (p : PairV) : Bool := wordB p.table.data.toList && wordB p.key.data.toList && decide (p.value.size ≤ 200)
/-! What is done with pairs -/
theorem tw_less {p : PairV} : ∀ {l : List PairV} {x : PairV}, x ∈ l.takeWhile (fun q => lessP q p) → lessP x p = true
 | [], _, h => by simp at h
 | q :: l, x, h => by
  rw [List.takeWhile_cons] at h
  split at h
  ·rename_i h1
   rcases List.mem_cons.1 h with rfl | h
   ·exact h1
   ·exact tw_less h
  ·simp at h
def emB : ByteArray := ⟨#[]⟩
end Go.Proofs.YtlommddabccdeaaGreatDoor
