/-
  RefsMeans0.
-/
import Derived.Test.YtopghlnoklajkaaGreatDoorQRefsLaw0
import Derived.Test.YtopghlnoklajkaaGreatDoorQRefsExpd
import Derived.Test.YtopghlnoklajkaaGreatDoorQRefsBoth
import Derived.Test.YtopghlnoklajkaaGreatDoorQRefsLaw1
import Derived.Test.YtopghlnoklajkaaGreatDoorQRefsLaid
namespace Go.Proofs.YtopghlnoklajkaaGreatDoor
open Go.ChangeShapes Go.WideShapes Go.ChangeAt Go.RowKit

def txtM (m : SetM) (t : ByteArray) : SetM := ⟨⟨m.x.name, ⟨m.x.val.kind, m.x.val.int, t, m.x.val.words⟩, m.x.from_⟩, m.a, m.c⟩
theorem sFlat_text (ms : List SetM) (k : Nat) (hk : k < ms.length) (t : ByteArray) : (sFlat ms).set (k * 6 + 3) (.string t) = sFlat (ms.set k (txtM ms[k] t)) := by
 have hs := sFlat_len ms
 have hs2 := sFlat_len (ms.set k (txtM ms[k] t))
 rw [List.length_set] at hs2
 apply List.ext_getElem?
 intro j
 by_cases hj : j < ms.length * 6
 ·obtain ⟨q, r, hq, hr⟩ : ∃ q r, j = q * 6 + r ∧ r < 6 := ⟨j / 6, j % 6, by omega, by omega⟩
  subst hq
  have hql : q < ms.length := by omega
  rw [sFlat_at _ q (by rw [List.length_set]; exact hql) r hr]
  by_cases hqk : q = k
  ·subst hqk
   rw [List.getElem_set_self]
   have h6 : r = 0 ∨ r = 1 ∨ r = 2 ∨ r = 3 ∨ r = 4 ∨ r = 5 := by omega
   rcases h6 with rfl | rfl | rfl | rfl | rfl | rfl
   ·rw [List.getElem?_set_ne (by omega), sFlat_at ms q hql 0 (by decide)]; rfl
   ·rw [List.getElem?_set_ne (by omega), sFlat_at ms q hql 1 (by decide)]; rfl
   ·rw [List.getElem?_set_ne (by omega), sFlat_at ms q hql 2 (by decide)]; rfl
   ·rw [List.getElem?_set_self (by omega)]; rfl
   ·rw [List.getElem?_set_ne (by omega), sFlat_at ms q hql 4 (by decide)]; rfl
   ·rw [List.getElem?_set_ne (by omega), sFlat_at ms q hql 5 (by decide)]; rfl
  ·rw [List.getElem?_set_ne (by omega), sFlat_at ms q hql r hr, List.getElem_set_ne (fun e => hqk e.symm)]
 ·rw [List.getElem?_eq_none (by simp only [List.length_set]; omega), List.getElem?_eq_none (by omega)]
theorem SetsAt.text {B g n c : Nat} {w : World} {ms : List SetM} (h : SetsAt B w (.slice (some ⟨g, 0, none⟩) n c) ms) (hn : ms.length = n) {k : Nat} (hk : k < ms.length) (t : ByteArray) :
  (∃ u, w.cell? ⟨g, k * 6 + 3, none⟩ = some u) ∧ w.frozen? ⟨g, k * 6 + 3, none⟩ = false ∧ SetsAt B (w.setCell ⟨g, k * 6 + 3, none⟩ (.string t)) (.slice (some ⟨g, 0, none⟩) n c) (ms.set k (txtM ms[k] t)) ∧ But g w (w.setCell ⟨g, k * 6 + 3, none⟩ (.string t)) := by
 subst hn
 have hl := sFlat_len ms
 have hc := h.row.cellAt (k * 6 + 3) (by omega)
 have hg := setGrown w g (k * 6 + 3) (.string t)
 refine ⟨⟨_, hc.trans (List.getElem?_eq_getElem (by omega))⟩, h.row.frozenAt _, ⟨?_, fun m hm => ?_⟩, (But.refl g w).setCell _ _⟩
 ·have h1 := (h.row.stored (k * 6 + 3) (.string t)).1
  rw [sFlat_text ms k hk t] at h1
  rw [List.length_set]
  exact h1
 ·rcases List.mem_or_eq_of_mem_set hm with hm | rfl
  ·have h0 := h.wds m hm
   exact ⟨h0.grownTx hg, h0.2.1, h0.2.2⟩
  ·have h0 := h.wds _ (List.getElem_mem hk)
   exact ⟨h0.grownTx hg, h0.2.1, h0.2.2⟩
theorem weigh_small {ls : List KeyV} {ps : List PutV} (h : capR (wKR ls + wPR ps) ≤ 2147483647) : ls.length ≤ 2147483647 ∧ ps.length ≤ 2147483647 ∧ (∀ l ∈ ls, l.name.size ≤ 2147483647 ∧ l.dflt.size ≤ 2147483647 ∧ l.letter.size ≤ 2147483647) ∧ ∀ p ∈ ps, p.text.size ≤ 2147483647 := by
 unfold capR at h
 have h1 : wKR ls + wPR ps ≤ 2147483647 := by omega
 have h2 : ls.length * 1 ≤ wKR ls := len_sum (f := wKeyR) ls fun l _ => by unfold wKeyR; omega
 have h3 : ps.length * 1 ≤ wPR ps := len_sum (f := fun p : PutV => 300 + p.text.size) ps fun p _ => by omega
 refine ⟨by omega, by omega, fun l hl => ?_, fun p hp => ?_⟩
 ·have : wKeyR l ≤ wKR ls := sum_mem (f := wKeyR) hl
  unfold wKeyR at this
  omega
 ·have : 300 + p.text.size ≤ wPR ps := sum_mem (f := fun p : PutV => 300 + p.text.size) hp
  omega
end Go.Proofs.YtopghlnoklajkaaGreatDoor
