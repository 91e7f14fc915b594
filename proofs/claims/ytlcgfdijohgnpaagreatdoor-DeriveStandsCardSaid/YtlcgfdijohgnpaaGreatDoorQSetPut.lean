/-
  SetPut.
-/
import Derived.Test.YtlcgfdijohgnpaaGreatDoorQSetMay
import Derived.Deep.RegionHeld3
import Derived.Deep.RegionLaw
namespace Go.Proofs.YtlcgfdijohgnpaaGreatDoor
open Go.ChangeShapes Go.WideShapes Go.ChangeAt Go.RowKit

theorem placeGo_cases (s : ByteArray) : ∀ (ns : List ByteArray) (k : Nat), placeGo s ns k = -1 ∨ ∃ j, ∃ h : j < ns.length, placeGo s ns k = ((k + j : Nat) : Int) ∧ (ns[j].toList == s.toList) = true := by
 intro ns
 induction ns with
 | nil => intro k; exact .inl rfl
 | cons n r ih =>
  intro k
  unfold placeGo
  by_cases h : (n.toList == s.toList) = true
  ·rw [if_pos h]
   exact .inr ⟨0, by simp, by simp, h⟩
  ·rw [if_neg h]
   rcases ih (k + 1) with h1 | ⟨j, hj, h1, h2⟩
   ·exact .inl h1
   ·exact .inr ⟨j + 1, by simpa using hj, by rw [h1]; congr 1; omega, by simpa using h2⟩
theorem placeN_cases (ns : List ByteArray) (s : ByteArray) : placeN ns s = -1 ∨ ∃ j, ∃ h : j < ns.length, placeN ns s = (j : Int) ∧ (ns[j].toList == s.toList) = true := by
 rcases placeGo_cases s ns 0 with h | ⟨j, hj, h1, h2⟩
 ·exact .inl h
 ·exact .inr ⟨j, hj, by unfold placeN; rw [h1]; simp, h2⟩
theorem sFlat_put (ms : List SetM) (k : Nat) (hk : k < ms.length) (v : Val) (y : Option Addr) (d : Nat) (fr : Int) :
  ((((((sFlat ms).set (k * 6 + 1) (.int .i64 v.kind)).set (k * 6 + 2) (.int .i64 v.int)).set (k * 6 + 3) (.string v.text)).set (k * 6 + 4) (.slice y v.words.length d)).set (k * 6 + 5) (.int .i64 fr)) = sFlat (ms.set k ⟨⟨ms[k].x.name, v, fr⟩, y, d⟩) := by
 have hs := sFlat_len ms
 have hs2 := sFlat_len (ms.set k ⟨⟨ms[k].x.name, v, fr⟩, y, d⟩)
 rw [List.length_set] at hs2
 apply List.ext_getElem?
 intro j
 by_cases hj : j < ms.length * 6
 ·obtain ⟨q, r, hq, hr⟩ : ∃ q r, j = q * 6 + r ∧ r < 6 := ⟨j / 6, j % 6, by omega, by omega⟩
  subst hq
  have hql : q < ms.length := by omega
  rw [sFlat_at _ q (by rw [List.length_set]; exact hql) r hr]
  by_cases hqk : q = k
  ·subst hqk
   rw [List.getElem_set_self]
   have h6 : r = 0 ∨ r = 1 ∨ r = 2 ∨ r = 3 ∨ r = 4 ∨ r = 5 := by omega
   rcases h6 with rfl | rfl | rfl | rfl | rfl | rfl
   ·rw [List.getElem?_set_ne (by omega), List.getElem?_set_ne (by omega), List.getElem?_set_ne (by omega), List.getElem?_set_ne (by omega), List.getElem?_set_ne (by omega), sFlat_at ms q hql 0 (by decide)]; rfl
   ·rw [List.getElem?_set_ne (by omega), List.getElem?_set_ne (by omega), List.getElem?_set_ne (by omega), List.getElem?_set_ne (by omega), List.getElem?_set_self (by omega)]; rfl
   ·rw [List.getElem?_set_ne (by omega), List.getElem?_set_ne (by omega), List.getElem?_set_ne (by omega), List.getElem?_set_self (by rw [List.length_set]; omega)]; rfl
   ·rw [List.getElem?_set_ne (by omega), List.getElem?_set_ne (by omega), List.getElem?_set_self (by rw [List.length_set, List.length_set]; omega)]; rfl
   ·rw [List.getElem?_set_ne (by omega), List.getElem?_set_self (by rw [List.length_set, List.length_set, List.length_set]; omega)]; rfl
   ·rw [List.getElem?_set_self (by rw [List.length_set, List.length_set, List.length_set, List.length_set]; omega)]; rfl
  ·have hne : ¬ k = q := fun e => hqk e.symm
   have hdis : ∀ i, i < 6 → k * 6 + i ≠ q * 6 + r := fun i hi => by
    intro e
    have : k = q := by omega
    exact hne this
   rw [List.getElem?_set_ne (hdis 5 (by decide)), List.getElem?_set_ne (hdis 4 (by decide)), List.getElem?_set_ne (hdis 3 (by decide)), List.getElem?_set_ne (hdis 2 (by decide)), List.getElem?_set_ne (hdis 1 (by decide)), sFlat_at ms q hql r hr, List.getElem_set_ne hne]
 ·rw [List.getElem?_eq_none (by simp only [List.length_set]; omega), List.getElem?_eq_none (by omega)]
section
variable {B B2 : Nat} {w w' : World} {ms : List SetM} {g cap n : Nat}
theorem SetsAt.put (h : SetsAt B w (.slice (some ⟨g, 0, none⟩) n cap) ms) (hn : ms.length = n) {k : Nat} (hk : k < ms.length) (v : Val) (y : Option Addr) (d : Nat) (fr : Int) (hw : w.ownsRow B2 9 1 (.slice y v.words.length d) v.words.length (v.words.map Value.string)) :
  SetsAt B (((((w.setCell ⟨g, k * 6 + 1, none⟩ (.int .i64 v.kind)).setCell ⟨g, k * 6 + 2, none⟩ (.int .i64 v.int)).setCell ⟨g, k * 6 + 3, none⟩ (.string v.text)).setCell ⟨g, k * 6 + 4, none⟩ (.slice y v.words.length d)).setCell ⟨g, k * 6 + 5, none⟩ (.int .i64 fr)) (.slice (some ⟨g, 0, none⟩) n cap) (ms.set k ⟨⟨ms[k].x.name, v, fr⟩, y, d⟩) ∧
  w.grownBy (((((w.setCell ⟨g, k * 6 + 1, none⟩ (.int .i64 v.kind)).setCell ⟨g, k * 6 + 2, none⟩ (.int .i64 v.int)).setCell ⟨g, k * 6 + 3, none⟩ (.string v.text)).setCell ⟨g, k * 6 + 4, none⟩ (.slice y v.words.length d)).setCell ⟨g, k * 6 + 5, none⟩ (.int .i64 fr)) (some g) := by
 subst hn
 have hg : w.grownBy (((((w.setCell ⟨g, k * 6 + 1, none⟩ (.int .i64 v.kind)).setCell ⟨g, k * 6 + 2, none⟩ (.int .i64 v.int)).setCell ⟨g, k * 6 + 3, none⟩ (.string v.text)).setCell ⟨g, k * 6 + 4, none⟩ (.slice y v.words.length d)).setCell ⟨g, k * 6 + 5, none⟩ (.int .i64 fr)) (some g) :=
  ((((setGrown w g _ _).trans (setGrown _ g _ _)).trans (setGrown _ g _ _)).trans (setGrown _ g _ _)).trans (setGrown _ g _ _)
 refine ⟨⟨?_, fun m hm => ?_⟩, hg⟩
 ·have h1 := (h.row.stored (k * 6 + 1) (.int .i64 v.kind)).1
  have h2 := (h1.stored (k * 6 + 2) (.int .i64 v.int)).1
  have h3 := (h2.stored (k * 6 + 3) (.string v.text)).1
  have h4 := (h3.stored (k * 6 + 4) (.slice y v.words.length d)).1
  have h5 := (h4.stored (k * 6 + 5) (.int .i64 fr)).1
  rw [sFlat_put ms k hk v y d fr] at h5
  rw [List.length_set]
  exact h5
 ·have hap := rowApart hw h.row (by decide)
  have hwk := hw.kept (row := some g) hg hap
  rcases List.mem_or_eq_of_mem_set hm with hm | rfl
  ·have h0 := h.wds m hm
   exact ⟨h0.grownTx hg, h0.2.1, h0.2.2⟩
  ·refine ⟨fun j hj => ?_, ?_, fun b off hpos e hq => ?_⟩
   ·rcases hwk.2 with ⟨h1, h2⟩ | ⟨g', cap', cur, h1, _, hgg, _⟩
    ·simp only at hj; omega
    ·injection h1 with h1 _ _
     subst h1
     refine ⟨g', 0, rfl, heap_lt hgg, ?_⟩
     rw [Nat.zero_add, hwk.cellAt j (by simp only at hj; omega), List.getElem?_map, List.getElem?_eq_getElem hj]; rfl
   ·rcases hwk.2 with ⟨h1, h2⟩ | ⟨g', cap', cur, h1, _, _, hnc, _⟩
    ·simp only; omega
    ·injection h1 with _ _ h3
     simp only; omega
   ·simp only at e
    rcases hap with h1 | h1
    ·rw [e] at h1; simp [Value.ownBlock] at h1
    ·rw [e] at h1
     exact h1 (by rw [hq]; rfl)
end
end Go.Proofs.YtlcgfdijohgnpaaGreatDoor
