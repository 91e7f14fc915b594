/-
  Bytes, RefsRow.
-/
import Derived.Test.YtlcgfdijohgnpaaGreatDoorRows
import Derived.WalkKit
import Derived.ProofKit
import Derived.OpenShut
import Derived.WalkLawsBesides
import Derived.Lib.Hide
import Derived.Lib.ConvBytes
import Derived.Laws.IdiomStrings
import Derived.Laws.BytesArg
import Derived.Test.YtlcgfdijohgnpaaGreatDoorQRefsMath
import Derived.Test.YtlcgfdijohgnpaaGreatDoorQValueLib
import Derived.Test.YtlcgfdijohgnpaaGreatDoorQMarks
import Derived.Deep.AppendLies
namespace Go.Proofs.YtlcgfdijohgnpaaGreatDoor
open Go.ChangeShapes Go.WideShapes Go.ChangeAt Go.RowKit

theorem add_zero_at (g j : Nat) : (⟨g, 0, none⟩ : Addr).add j = ⟨g, j, none⟩ := by unfold Addr.add; split <;> simp_all

end Go.Proofs.YtlcgfdijohgnpaaGreatDoor

namespace Go.Proofs.YtlcgfdijohgnpaaGreatDoor
open Go.ChangeShapes Go.WideShapes Go.ChangeAt Go.RowKit

section
variable {w w' : World} {B B1 B2 n n1 n2 s1 s2 : Nat} {e e1 e2 : TypeId} {v v1 v2 : Value} {xs xs1 xs2 : List Value}
theorem rowApart (h1 : w.ownsRow B1 e1 s1 v1 n1 xs1) (h2 : w.ownsRow B2 e2 s2 v2 n2 xs2) (hne : e1 ≠ e2) : v1.ownBlock = none ∨ v1.ownBlock ≠ v2.ownBlock := by
 rcases h1.2 with ⟨rfl, _⟩ | ⟨g, cap, cur, rfl, _, hg, _⟩
 ·exact .inl rfl
 ·refine .inr fun h => ?_
  rcases h2.2 with ⟨rfl, _⟩ | ⟨g2, cap2, cur2, rfl, _, hg2, _⟩
  ·simp [Value.ownBlock] at h
  ·have : g = g2 := by simpa [Value.ownBlock] using h
   subst this
   rw [hg] at hg2
   injection hg2 with hg2
   injection hg2 with _ ht _
   exact hne ht
theorem rowBelow (h : w.ownsRow B e n v n1 xs) (hb : Below w.heap.size w w') : w'.ownsRow B e n v n1 xs :=
 h.kept (row := none) ⟨hb.os, hb.tape, hb.output, hb.size, fun k hk _ => hb.block k hk⟩ (by cases h2 : v.ownBlock with | none => exact Or.inl rfl | some _ => exact Or.inr (by simp))
theorem grownAlloc {o : Obj} {row : Option Nat} (hg : (w.alloc o).grownBy w' row) : w.grownBy w' row :=
 ⟨hg.os, hg.tape, hg.output, Nat.le_trans (by simp) hg.size, fun k hk hne => (hg.block k (by simp; omega) hne).trans ((below_one w o).block k hk)⟩
theorem rowGrown (h1 : w.ownsRow B1 e1 s1 v1 n1 xs1) (h2 : w.ownsRow B2 e2 s2 v2 n2 xs2) (hne : e1 ≠ e2) {o : Obj} (hg : (w.alloc o).grownBy w' v2.ownBlock) : w'.ownsRow B1 e1 s1 v1 n1 xs1 := h1.kept (grownAlloc hg) (rowApart h1 h2 hne)
end
end Go.Proofs.YtlcgfdijohgnpaaGreatDoor
