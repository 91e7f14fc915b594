/-
  But.
-/
import Derived.Laws.Rows
import Derived.Below
import Derived.WalkKit
namespace Go.Proofs.YtlommddabccdeaaGreatDoor
open Go.RowKit

def But (S : Nat) (w w' : World) : Prop := w'.os = w.os ∧ w'.tape = w.tape ∧ w'.output = w.output ∧ w.heap.size ≤ w'.heap.size ∧ ∀ k, k < w.heap.size → k ≠ S → w'.heap[k]? = w.heap[k]?
theorem But.of_below {S : Nat} {w w' : World} (h : Below w.heap.size w w') : But S w w' := ⟨h.os, h.tape, h.output, h.size, fun k hk _ => h.block k hk⟩
theorem But.setCell {S : Nat} {w w' : World} (h : But S w w') (i : Nat) (u : Value) : But S w (w'.setCell ⟨S, i, none⟩ u) :=
 ⟨h.1, h.2.1, h.2.2.1, by simpa using h.2.2.2.1, fun k hk hn => by rw [Below.heap_setCell _ _ _ _ hn]; exact h.2.2.2.2 k hk hn⟩
theorem But.below {S B : Nat} {w w' : World} (h : But S w w') (hB : B ≤ S) (hw : B ≤ w.heap.size) : Below B w w' := ⟨h.1, h.2.1, h.2.2.1, h.2.2.2.1, fun k hk => h.2.2.2.2 k (by omega) (by omega)⟩
theorem But.refl (S : Nat) (w : World) : But S w w := ⟨rfl, rfl, rfl, Nat.le_refl _, fun _ _ _ => rfl⟩
theorem But.then_below {S : Nat} {a b c : World} (h : But S a b) (k : Below b.heap.size b c) : But S a c :=
 ⟨k.os.trans h.1, k.tape.trans h.2.1, k.output.trans h.2.2.1, Nat.le_trans h.2.2.2.1 k.size, fun x hx hn => (k.block x (Nat.lt_of_lt_of_le hx h.2.2.2.1)).trans (h.2.2.2.2 x hx hn)⟩
theorem But.cell {S : Nat} {w w' : World} (h : But S w w') {p : Addr} (hp : p.block < w.heap.size) (hn : p.block ≠ S) : w'.cell? p = w.cell? p := by
 have := h.2.2.2.2 p.block hp hn
 unfold World.cell?; rw [this]
end Go.Proofs.YtlommddabccdeaaGreatDoor
