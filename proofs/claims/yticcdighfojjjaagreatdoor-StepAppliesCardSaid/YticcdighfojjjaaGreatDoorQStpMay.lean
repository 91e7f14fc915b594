/-
  StpMay.
-/
import Derived.Test.YticcdighfojjjaaGreatDoorQStpCal
import Derived.Test.YticcdighfojjjaaGreatDoorQPrKit
import Derived.Test.YticcdighfojjjaaGreatDoorQStpBack
import Derived.Test.YticcdighfojjjaaGreatDoorQStpRight
import Derived.Test.YticcdighfojjjaaGreatDoorQStpRef1
namespace Go.Proofs.YticcdighfojjjaaGreatDoor
open Go.ChangeShapes Go.WideShapes Go.ChangeAt Go.RowKit

/-- Its block. -/
abbrev pO (p : PairV) : Obj := .cells #[.string p.table, .string p.key, .string p.value] 51
set_option maxRecDepth 100000 in
theorem mayBe_any (p : PairV) (w : World) (h1 : p.table.size ≤ maxLen) (h2 : p.key.size ≤ maxLen) (hT : Tab w) :
    Calls Tryz.prog 54 #[pV p] w fun e w' => e = .returned (.bool (okP p)) ∧ w' = w.alloc (pO p) := by
  have hok : okP p = (wordA p.table && wordA p.key && decide (p.value.size ≤ 200)) := rfl
  rw [hok]
  clear hok
  obtain ⟨tb, ky, vl⟩ := p
  unfold pV pO
  dsimp only at h1 h2 ⊢
  have HW : Hid (∀ o, (Calls Tryz.prog 35 #[.string tb] (w.alloc o) fun e w' => e = .returned (.bool (wordA tb)) ∧ w.alloc o = w') ∧ (Calls Tryz.prog 35 #[.string ky] (w.alloc o) fun e w' => e = .returned (.bool (wordA ky)) ∧ w.alloc o = w') ∧ (Calls Tryz.prog 30 #[.string vl] (w.alloc o) fun e w' => e = .returned (.bool (decide (vl.size ≤ 200))) ∧ w.alloc o = w')) := Lib.hid fun o =>
    have hT' := hT.below (below_one w o)
    ⟨isWord_any tb _ hT' h1, isWord_any ky _ hT' h2, isValue_any vl _⟩
  clear hT h1 h2
  generalize wordA tb = a at HW ⊢
  generalize wordA ky = b at HW ⊢
  generalize decide (vl.size ≤ 200) = c at HW ⊢
  cases a <;> cases b <;> cases c
  all_goals
    simp only [Bool.and_true, Bool.and_false, Bool.and_self]
    go_enter Tryz.func54, Tryz.ntmps54
    go_wp2_with (first | (go_at_call 35; first | ((with_reducible refine (HW.out _).1.mono ?_); rintro e w' ⟨rfl, rfl⟩) | ((with_reducible refine (HW.out _).2.1.mono ?_); rintro e w' ⟨rfl, rfl⟩)) | (go_at_call 30; (with_reducible refine (HW.out _).2.2.mono ?_); rintro e w' ⟨rfl, rfl⟩))
    go_ret
    exact ⟨rfl, rfl⟩
/-- find's: is it the pair of a table and a key? -/
theorem findP_any (p : PairV) (t k : ByteArray) (w : World) (B C : Nat) (hB : w.cell? ⟨B, 0, none⟩ = some (.string t)) (hC : w.cell? ⟨C, 0, none⟩ = some (.string k)) :
    Calls Tryz.prog 106 #[pV p, .pointer (some ⟨B, 0, none⟩), .pointer (some ⟨C, 0, none⟩)] w fun e w' => e = .returned (.bool (isP t k p)) ∧ w' = w.alloc (pO p) := by
  obtain ⟨tb, ky, vl⟩ := p
  unfold pV pO
  dsimp only
  have hB' : ∀ o, (w.alloc o).cell? ⟨B, 0, none⟩ = some (.string t) := fun o => Lib.cell?_alloc_some o hB
  have hC' : ∀ o, (w.alloc o).cell? ⟨C, 0, none⟩ = some (.string k) := fun o => Lib.cell?_alloc_some o hC
  have hv : isP t k ⟨tb, ky, vl⟩ = ((tb.toList == t.toList) && (ky.toList == k.toList)) := rfl
  rw [hv]
  clear hv hB hC
  obtain ⟨a, ha⟩ : ∃ a, (tb.toList == t.toList) = a := ⟨_, rfl⟩
  obtain ⟨b, hb⟩ : ∃ b, (ky.toList == k.toList) = b := ⟨_, rfl⟩
  rw [ha, hb]
  cases a <;> cases b
  all_goals
    simp only [Bool.and_true, Bool.and_false, Bool.and_self]
    go_enter Tryz.func106, Tryz.ntmps106
    go_wp2
    go_ret
    exact ⟨rfl, rfl⟩
/-- hasTable's: is it of the table? -/
theorem hasP_any (p : PairV) (t : ByteArray) (w : World) (B : Nat) (hB : w.cell? ⟨B, 0, none⟩ = some (.string t)) :
    Calls Tryz.prog 108 #[pV p, .pointer (some ⟨B, 0, none⟩)] w fun e w' => e = .returned (.bool (inT t p)) ∧ w' = w.alloc (pO p) := by
  obtain ⟨tb, ky, vl⟩ := p
  unfold pV pO
  dsimp only
  have hB' : ∀ o, (w.alloc o).cell? ⟨B, 0, none⟩ = some (.string t) := fun o => Lib.cell?_alloc_some o hB
  have hv : inT t ⟨tb, ky, vl⟩ = (tb.toList == t.toList) := rfl
  rw [hv]
  clear hv hB
  obtain ⟨a, ha⟩ : ∃ a, (tb.toList == t.toList) = a := ⟨_, rfl⟩
  rw [ha]
  cases a
  all_goals
    go_enter Tryz.func108, Tryz.ntmps108
    go_wp2
    go_ret
    exact ⟨rfl, rfl⟩
/-- dropped's: does it go? -/
theorem dropP_any (p : PairV) (t k : ByteArray) (w : World) (B : Nat) (hB : w.cell? ⟨B, 1, none⟩ = some (.string t)) (hC : w.cell? ⟨B, 2, none⟩ = some (.string k)) :
    Calls Tryz.prog 81 #[pV p, .pointer (some ⟨B, 0, none⟩)] w fun e w' => e = .returned (.bool (!keepP t k p)) ∧ w' = w.alloc (pO p) := by
  obtain ⟨tb, ky, vl⟩ := p
  unfold pV pO
  dsimp only
  have hB' : ∀ o, (w.alloc o).cell? ⟨B, 1, none⟩ = some (.string t) := fun o => Lib.cell?_alloc_some o hB
  have hC' : ∀ o, (w.alloc o).cell? ⟨B, 2, none⟩ = some (.string k) := fun o => Lib.cell?_alloc_some o hC
  have hv : (!keepP t k ⟨tb, ky, vl⟩) = ((tb.toList == t.toList) && (noneA k || (ky.toList == k.toList))) := by
    unfold keepP noneA eqB
    cases tb.toList == t.toList <;> cases decide (k.size = 0) <;> cases ky.toList == k.toList <;> rfl
  rw [hv]
  clear hv hB hC
  have e1 := none_list k
  have e1' := none_empty k
  generalize noneA k = c at e1 e1' ⊢
  obtain ⟨a, ha⟩ : ∃ a, (tb.toList == t.toList) = a := ⟨_, rfl⟩
  obtain ⟨b, hb⟩ : ∃ b, (ky.toList == k.toList) = b := ⟨_, rfl⟩
  rw [ha, hb]
  cases a <;> cases b <;> cases c
  all_goals
    simp only [Bool.and_true, Bool.and_false, Bool.and_self, Bool.or_true, Bool.or_false]
    go_enter Tryz.func81, Tryz.ntmps81
    go_wp2
    go_ret
    exact ⟨rfl, rfl⟩
end Go.Proofs.YticcdighfojjjaaGreatDoor
