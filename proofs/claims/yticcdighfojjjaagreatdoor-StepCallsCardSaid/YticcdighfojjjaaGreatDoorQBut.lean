/-
  But.
-/
import Derived.Laws.Rows
import Derived.Below
import Derived.WalkKit
namespace Go.Proofs.YticcdighfojjjaaGreatDoor
open Go.RowKit

/-- All is as it was, but for one block. -/
def But (S : Nat) (w w' : World) : Prop := w'.os = w.os ∧ w'.tape = w.tape ∧ w'.output = w.output ∧ w.heap.size ≤ w'.heap.size ∧ ∀ k, k < w.heap.size → k ≠ S → w'.heap[k]? = w.heap[k]?
theorem But.setCell {S : Nat} {w w' : World} (h : But S w w') (i : Nat) (u : Value) : But S w (w'.setCell ⟨S, i, none⟩ u) :=
  ⟨h.1, h.2.1, h.2.2.1, by simpa using h.2.2.2.1, fun k hk hn => by rw [Below.heap_setCell _ _ _ _ hn]; exact h.2.2.2.2 k hk hn⟩
theorem But.below {S B : Nat} {w w' : World} (h : But S w w') (hB : B ≤ S) (hw : B ≤ w.heap.size) : Below B w w' := ⟨h.1, h.2.1, h.2.2.1, h.2.2.2.1, fun k hk => h.2.2.2.2 k (by omega) (by omega)⟩
theorem But.refl (S : Nat) (w : World) : But S w w := ⟨rfl, rfl, rfl, Nat.le_refl _, fun _ _ _ => rfl⟩
theorem But.cell {S : Nat} {w w' : World} (h : But S w w') {p : Addr} (hp : p.block < w.heap.size) (hn : p.block ≠ S) : w'.cell? p = w.cell? p := by
  have := h.2.2.2.2 p.block hp hn
  unfold World.cell?; rw [this]
end Go.Proofs.YticcdighfojjjaaGreatDoor
