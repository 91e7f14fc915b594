/-
  SetOwn.
-/
import Derived.Test.YtlcgfdijohgnpaaGreatDoorQSetKit
import Derived.Test.YtlcgfdijohgnpaaGreatDoorQValueRight
import Derived.Test.YtlcgfdijohgnpaaGreatDoorQValueBox
namespace Go.Proofs.YtlcgfdijohgnpaaGreatDoor
open Go.ChangeShapes Go.WideShapes Go.ChangeAt Go.RowKit

theorem ownLess {w : World} {B B' : Nat} {e : TypeId} {size n : Nat} {v : Value} {xs : List Value} (h : w.ownsRow B' e size v n xs) (hB : B ≤ B') : w.ownsRow B e size v n xs := by
 refine ⟨h.1, ?_⟩
 rcases h.2 with h2 | ⟨g, cap, cur, h1, h2, h3⟩
 ·exact .inl h2
 ·exact .inr ⟨g, cap, cur, h1, Nat.le_trans hB h2, h3⟩
theorem setGrown (w : World) (S i : Nat) (u : Value) : w.grownBy (w.setCell ⟨S, i, none⟩ u) (some S) := ⟨rfl, rfl, rfl, by simp [World.setCell], fun q _ hne => Below.heap_setCell _ _ _ _ (fun e => hne (by rw [e]))⟩
theorem rowSet {w : World} {B S i : Nat} {e : TypeId} {size n : Nat} {v u : Value} {xs : List Value} (h : w.ownsRow B e size v n xs) (hS : S < B) : (w.setCell ⟨S, i, none⟩ u).ownsRow B e size v n xs :=
 h.kept (setGrown w S i u) (.inr fun hq => by have := (h.lt S hq).1; omega)
theorem five_cells (w w3 : World) (S : Nat) (a b c d e : Value) {B n : Nat} {v : Value} {xs : List Value} (hb : Below w.heap.size w w3) (hS : w.heap.size ≤ S) (hB : S + 2 ≤ B) (h : w3.ownsRow B 9 1 v n xs) :
  (((((w3.setCell ⟨S, 3, none⟩ a).setCell ⟨S + 1, 0, none⟩ b).setCell ⟨S + 1, 1, none⟩ c).setCell ⟨S + 1, 2, none⟩ d).setCell ⟨S + 1, 3, none⟩ e).ownsRow w.heap.size 9 1 v n xs ∧
  Below w.heap.size w (((((w3.setCell ⟨S, 3, none⟩ a).setCell ⟨S + 1, 0, none⟩ b).setCell ⟨S + 1, 1, none⟩ c).setCell ⟨S + 1, 2, none⟩ d).setCell ⟨S + 1, 3, none⟩ e) := by
 refine ⟨ownLess ?_ (show w.heap.size ≤ B by omega), ?_⟩
 ·exact rowSet (rowSet (rowSet (rowSet (rowSet h (by omega)) (by omega)) (by omega)) (by omega)) (by omega)
 ·exact ((((hb.setCell (p := ⟨S, 3, none⟩) hS a).setCell (p := ⟨S + 1, 0, none⟩) (show w.heap.size ≤ S + 1 by omega) b).setCell (p := ⟨S + 1, 1, none⟩) (show w.heap.size ≤ S + 1 by omega) c).setCell (p := ⟨S + 1, 2, none⟩) (show w.heap.size ≤ S + 1 by omega) d).setCell (p := ⟨S + 1, 3, none⟩) (show w.heap.size ≤ S + 1 by omega) e
end Go.Proofs.YtlcgfdijohgnpaaGreatDoor
