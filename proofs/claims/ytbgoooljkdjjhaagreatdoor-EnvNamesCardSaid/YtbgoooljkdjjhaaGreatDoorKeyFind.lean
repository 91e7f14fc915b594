/-
  The walks of package key's place and Find.
-/
import Derived.Test.YtbgoooljkdjjhaaGreatDoorKeyPlace
namespace Go.Proofs.YtbgoooljkdjjhaaGreatDoor
open Go.ChangeShapes Go.WideShapes Go.ChangeAt Go.RowKit

/-- A definition in its block: six cells, none of them frozen. -/
structure Box6 (w : World) (R : Nat) (k : KeyV) : Prop where
  c0 : w.cell? ⟨R, 0, none⟩ = some (.string k.name)
  c1 : w.cell? ⟨R, 1, none⟩ = some (.int .i64 k.kind)
  c2 : w.cell? ⟨R, 2, none⟩ = some (.string k.dflt)
  c3 : w.cell? ⟨R, 3, none⟩ = some (.int .i64 k.least)
  c4 : w.cell? ⟨R, 4, none⟩ = some (.int .i64 k.most)
  c5 : w.cell? ⟨R, 5, none⟩ = some (.string k.letter)
  fz : ∀ j, j < 6 → w.frozen? ⟨R, j, none⟩ = false
theorem Box6.lt {w : World} {R : Nat} {k : KeyV} (h : Box6 w R k) : R < w.heap.size := lt_of_cell h.c0
theorem Box6.below {w w' : World} {R : Nat} {k : KeyV} (h : Box6 w R k) (hb : Below w.heap.size w w') : Box6 w' R k := by
  have hl := h.lt
  obtain ⟨h0, h1, h2, h3, h4, h5, hf⟩ := h
  exact ⟨by rw [hb.cell hl]; exact h0, by rw [hb.cell hl]; exact h1, by rw [hb.cell hl]; exact h2, by rw [hb.cell hl]; exact h3, by rw [hb.cell hl]; exact h4, by rw [hb.cell hl]; exact h5, fun j hj => by rw [hb.frozen hl]; exact hf j hj⟩
theorem box6_new (w : World) (k : KeyV) (t : TypeId) : Box6 (w.alloc (Obj.cells #[.string k.name, .int .i64 k.kind, .string k.dflt, .int .i64 k.least, .int .i64 k.most, .string k.letter] t)) w.heap.size k := by
  refine ⟨?_, ?_, ?_, ?_, ?_, ?_, fun j hj => ?_⟩
  all_goals simp
def set6 (w : World) (R : Nat) (k : KeyV) : World := (((((w.setCell ⟨R, 0, none⟩ (.string k.name)).setCell ⟨R, 1, none⟩ (.int .i64 k.kind)).setCell ⟨R, 2, none⟩ (.string k.dflt)).setCell ⟨R, 3, none⟩ (.int .i64 k.least)).setCell ⟨R, 4, none⟩ (.int .i64 k.most)).setCell ⟨R, 5, none⟩ (.string k.letter)
theorem Box6.set6 {w : World} {R : Nat} {k0 : KeyV} (h : Box6 w R k0) (k : KeyV) : Box6 (set6 w R k) R k := by
  obtain ⟨h0, h1, h2, h3, h4, h5, hf⟩ := h
  have ne : ∀ i j, i ≠ j → (⟨R, i, none⟩ : Addr) ≠ ⟨R, j, none⟩ := fun i j hn e => hn (by injection e)
  have s : ∀ (W : World) (i j : Nat) (u : Value), i ≠ j → (W.setCell ⟨R, i, none⟩ u).cell? ⟨R, j, none⟩ = W.cell? ⟨R, j, none⟩ := fun W i j u hn => World.cell?_setCell_other _ _ _ _ (ne i j hn)
  unfold Go.Proofs.YtbgoooljkdjjhaaGreatDoor.set6
  refine ⟨?_, ?_, ?_, ?_, ?_, ?_, fun j hj => ?_⟩
  · rw [s _ 5 0 _ (by decide), s _ 4 0 _ (by decide), s _ 3 0 _ (by decide), s _ 2 0 _ (by decide), s _ 1 0 _ (by decide)]
    exact World.cell?_setCell_same _ _ _ h0
  · rw [s _ 5 1 _ (by decide), s _ 4 1 _ (by decide), s _ 3 1 _ (by decide), s _ 2 1 _ (by decide)]
    exact World.cell?_setCell_same _ _ _ ((s _ 0 1 _ (by decide)).trans h1)
  · rw [s _ 5 2 _ (by decide), s _ 4 2 _ (by decide), s _ 3 2 _ (by decide)]
    exact World.cell?_setCell_same _ _ _ ((s _ 1 2 _ (by decide)).trans ((s _ 0 2 _ (by decide)).trans h2))
  · rw [s _ 5 3 _ (by decide), s _ 4 3 _ (by decide)]
    exact World.cell?_setCell_same _ _ _ ((s _ 2 3 _ (by decide)).trans ((s _ 1 3 _ (by decide)).trans ((s _ 0 3 _ (by decide)).trans h3)))
  · rw [s _ 5 4 _ (by decide)]
    exact World.cell?_setCell_same _ _ _ ((s _ 3 4 _ (by decide)).trans ((s _ 2 4 _ (by decide)).trans ((s _ 1 4 _ (by decide)).trans ((s _ 0 4 _ (by decide)).trans h4))))
  · exact World.cell?_setCell_same _ _ _ ((s _ 4 5 _ (by decide)).trans ((s _ 3 5 _ (by decide)).trans ((s _ 2 5 _ (by decide)).trans ((s _ 1 5 _ (by decide)).trans ((s _ 0 5 _ (by decide)).trans h5)))))
  · rw [World.frozen?_setCell, World.frozen?_setCell, World.frozen?_setCell, World.frozen?_setCell, World.frozen?_setCell, World.frozen?_setCell]; exact hf j hj
theorem below_set6 {B : Nat} {w0 w : World} (h : Below B w0 w) {R : Nat} (hR : B ≤ R) (k : KeyV) : Below B w0 (set6 w R k) :=
  (((((h.setCell (p := ⟨R, 0, none⟩) hR _).setCell (p := ⟨R, 1, none⟩) hR _).setCell (p := ⟨R, 2, none⟩) hR _).setCell (p := ⟨R, 3, none⟩) hR _).setCell (p := ⟨R, 4, none⟩) hR _).setCell (p := ⟨R, 5, none⟩) hR _

/-- A set of definitions in memory. -/
structure SetAt (w : World) (S : Nat) (x : Option Addr) (c : Nat) (xs : List KeyV) : Prop where
  cell : w.cell? ⟨S, 0, none⟩ = some (.slice x xs.length c)
  keys : Keys w x xs
  room : xs.length ≤ c
  none_ : xs = [] → x = none ∧ c = 0
  free : w.frozen? ⟨S, 0, none⟩ = false
theorem SetAt.below {w w' : World} {S : Nat} {x : Option Addr} {c : Nat} {xs : List KeyV} (h : SetAt w S x c xs) (hb : Below w.heap.size w w') : SetAt w' S x c xs :=
  ⟨by rw [hb.cell (p := ⟨S, 0, none⟩) (lt_of_cell h.cell)]; exact h.cell, h.keys.below hb, h.room, h.none_, by rw [hb.frozen (p := ⟨S, 0, none⟩) (lt_of_cell h.cell)]; exact h.free⟩

set_option maxRecDepth 100000 in
theorem place_any (xs : List KeyV) (nm : ByteArray) (S : Nat) (x : Option Addr) (c : Nat) (w : World) (h : SetAt w S x c xs) (hm : Mono xs nm) (hn : xs.length ≤ 1000000) :
    Calls Tryz.prog 56 #[.pointer (some ⟨S, 0, none⟩), .string nm] w (FoundRes xs nm w) := by
  have c0 := h.cell
  have HS := Lib.hid (search_any xs nm x c w h.keys hm hn)
  clear h hm hn
  generalize xs.length = n at c0 HS
  go_enter Tryz.func56, Tryz.ntmps56
  go_wp2_with fail
  refine HS.out.mono ?_
  rintro e w' ⟨i, hp, rfl, hb⟩
  have HP := Lib.hid hp
  have HB := Lib.hid hb
  obtain ⟨F, hF⟩ : ∃ F, (decide (i < xs.length) && decide (cmpAt xs nm i = 0)) = F := ⟨_, rfl⟩
  have HF := Lib.hid hF
  rw [hF]
  clear hp hb hF
  go_wp2
  go_ret2
  exact ⟨i, HP.out, ret_val (by rw [HF.out]; rfl), HB.out⟩
end Go.Proofs.YtbgoooljkdjjhaaGreatDoor
