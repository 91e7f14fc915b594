/-
  Definitions as plain records; lists of them in memory; texts compared.
-/
import Derived.Test.YtbgoooljkdjjhaaGreatDoorValueLib
import Derived.Test.YtbgoooljkdjjhaaGreatDoorMarks
namespace Go.Proofs.YtbgoooljkdjjhaaGreatDoor
open Go.ChangeShapes Go.WideShapes Go.ChangeAt Go.RowKit

/-- A definition. -/
structure KeyV where
  name : ByteArray
  kind : Int
  dflt : ByteArray
  least : Int
  most : Int
  letter : ByteArray
def kCells (k : KeyV) : List Value := [.string k.name, .int .i64 k.kind, .string k.dflt, .int .i64 k.least, .int .i64 k.most, .string k.letter]
def kAgg (k : KeyV) : Value := .agg #[.string k.name, .int .i64 k.kind, .string k.dflt, .int .i64 k.least, .int .i64 k.most, .string k.letter]
/-- A list of definitions in memory. -/
def Keys (w : World) (x : Option Addr) (xs : List KeyV) : Prop :=
  ∀ i (h : i < xs.length), ∃ b, x = some ⟨b, 0, none⟩ ∧ b < w.heap.size ∧ w.cell? ⟨b, i * 6, none⟩ = some (.string xs[i].name) ∧ w.cell? ⟨b, i * 6 + 1, none⟩ = some (.int .i64 xs[i].kind) ∧ w.cell? ⟨b, i * 6 + 2, none⟩ = some (.string xs[i].dflt) ∧
    w.cell? ⟨b, i * 6 + 3, none⟩ = some (.int .i64 xs[i].least) ∧ w.cell? ⟨b, i * 6 + 4, none⟩ = some (.int .i64 xs[i].most) ∧ w.cell? ⟨b, i * 6 + 5, none⟩ = some (.string xs[i].letter)
theorem Keys.below {w w' : World} {x : Option Addr} {xs : List KeyV} (h : Keys w x xs) (hb : Below w.heap.size w w') : Keys w' x xs := fun i hi => by
  obtain ⟨b, e, hl, c0, c1, c2, c3, c4, c5⟩ := h i hi
  exact ⟨b, e, Nat.lt_of_lt_of_le hl hb.size, by rw [hb.cell (p := ⟨b, i * 6, none⟩) hl]; exact c0, by rw [hb.cell (p := ⟨b, i * 6 + 1, none⟩) hl]; exact c1, by rw [hb.cell (p := ⟨b, i * 6 + 2, none⟩) hl]; exact c2, by rw [hb.cell (p := ⟨b, i * 6 + 3, none⟩) hl]; exact c3, by rw [hb.cell (p := ⟨b, i * 6 + 4, none⟩) hl]; exact c4, by rw [hb.cell (p := ⟨b, i * 6 + 5, none⟩) hl]; exact c5⟩
theorem Keys.nil_ (w : World) (x : Option Addr) : Keys w x [] := fun i h => absurd h (by simp)

def cmpB (a b : ByteArray) : Int := Lib.compareBytes a.data.toList b.data.toList
theorem compare_any (a b : ByteArray) (w : World) : Calls Tryz.prog 81 #[.string a, .string b] w fun e w' => e = .returned (.int .i64 (cmpB a b)) ∧ w = w' :=
  (Any.strings_Compare Tryz.lays106 a b w).mono fun _ _ ⟨he, hw⟩ => ⟨he, hw.symm⟩
set_option maxRecDepth 100000 in
theorem place1_any (k : KeyV) (nm : ByteArray) (w : World) : Calls Tryz.prog 80 #[kAgg k, .string nm] w fun e w' => e = .returned (.int .i64 (cmpB k.name nm)) ∧ Below w.heap.size w w' := by
  unfold kAgg
  go_enter Tryz.func80, Tryz.ntmps80
  go_wp2_with fail
  refine (compare_any _ _ _).mono ?_
  rintro e w' ⟨rfl, rfl⟩
  go_wp2
  go_ret
  exact ⟨rfl, (Below.refl _ _).alloc (Nat.le_refl _) _⟩
end Go.Proofs.YtbgoooljkdjjhaaGreatDoor
