/-
  ValueBox, Marks, RefsRow, RefsPieces, RowOps.
-/
import Derived.Test.YtopghlnoklajkaaGreatDoorQBytes
import Derived.Maps.AppendAt
import Derived.Laws.OwnMore
import Derived.Laws.Rows
import Derived.Below
import Derived.RegionTactic
import Derived.Test.YtopghlnoklajkaaGreatDoorQRefsMath
import Derived.Test.YtopghlnoklajkaaGreatDoorQValueLib
import Derived.Deep.AppendLies
import Derived.Deep.RegionLaw
import Derived.Laws.CopyOwn
import Derived.Laws.Append
import Derived.Laws.AppendOwn
namespace Go.Proofs.YtopghlnoklajkaaGreatDoor
open Go.ChangeShapes Go.WideShapes Go.ChangeAt Go.RowKit

theorem ret_val {a b : Value} (h : a = b) : Ending.returned a = .returned b := by rw [h]
structure Box4 (w : World) (R : Nat) (a b c d : Value) : Prop where
  c0 : w.cell? ⟨R, 0, none⟩ = some a
  c1 : w.cell? ⟨R, 1, none⟩ = some b
  c2 : w.cell? ⟨R, 2, none⟩ = some c
  c3 : w.cell? ⟨R, 3, none⟩ = some d
  z0 : w.frozen? ⟨R, 0, none⟩ = false
  z1 : w.frozen? ⟨R, 1, none⟩ = false
  z2 : w.frozen? ⟨R, 2, none⟩ = false
  z3 : w.frozen? ⟨R, 3, none⟩ = false
variable {w w' : World} {R : Nat} {a b c d : Value}
theorem Box4.lt (h : Box4 w R a b c d) : R < w.heap.size := lt_of_cell h.c0
theorem Box4.below (h : Box4 w R a b c d) (hb : Below w.heap.size w w') : Box4 w' R a b c d := by
  have hl := h.lt
  obtain ⟨h0, h1, h2, h3, z0, z1, z2, z3⟩ := h
  exact ⟨by rw [hb.cell hl]; exact h0, by rw [hb.cell hl]; exact h1, by rw [hb.cell hl]; exact h2, by rw [hb.cell hl]; exact h3, by rw [hb.frozen hl]; exact z0, by rw [hb.frozen hl]; exact z1, by rw [hb.frozen hl]; exact z2, by rw [hb.frozen hl]; exact z3⟩
theorem box4_new (w : World) (a b c d : Value) (t : TypeId) : Box4 (w.alloc (.cells #[a, b, c, d] t)) w.heap.size a b c d := by
  constructor <;> simp
def set4 (w : World) (R : Nat) (x y z u : Value) : World := (((w.setCell ⟨R, 0, none⟩ x).setCell ⟨R, 1, none⟩ y).setCell ⟨R, 2, none⟩ z).setCell ⟨R, 3, none⟩ u
theorem Box4.set4 (h : Box4 w R a b c d) (x y z u : Value) : Box4 (set4 w R x y z u) R x y z u := by
  obtain ⟨h0, h1, h2, h3, z0, z1, z2, z3⟩ := h
  have a0 := World.cell?_setCell_same w ⟨R, 0, none⟩ x h0
  have a1 : (w.setCell ⟨R, 0, none⟩ x).cell? ⟨R, 1, none⟩ = some b := by rw [World.cell?_setCell_other _ _ _ _ (by simp), h1]
  have a2 : (w.setCell ⟨R, 0, none⟩ x).cell? ⟨R, 2, none⟩ = some c := by rw [World.cell?_setCell_other _ _ _ _ (by simp), h2]
  have a3 : (w.setCell ⟨R, 0, none⟩ x).cell? ⟨R, 3, none⟩ = some d := by rw [World.cell?_setCell_other _ _ _ _ (by simp), h3]
  have b1 := World.cell?_setCell_same _ ⟨R, 1, none⟩ y a1
  have b2 : ((w.setCell ⟨R, 0, none⟩ x).setCell ⟨R, 1, none⟩ y).cell? ⟨R, 2, none⟩ = some c := by rw [World.cell?_setCell_other _ _ _ _ (by simp), a2]
  have b3 : ((w.setCell ⟨R, 0, none⟩ x).setCell ⟨R, 1, none⟩ y).cell? ⟨R, 3, none⟩ = some d := by rw [World.cell?_setCell_other _ _ _ _ (by simp), a3]
  have e2 := World.cell?_setCell_same _ ⟨R, 2, none⟩ z b2
  have e3 : (((w.setCell ⟨R, 0, none⟩ x).setCell ⟨R, 1, none⟩ y).setCell ⟨R, 2, none⟩ z).cell? ⟨R, 3, none⟩ = some d := by rw [World.cell?_setCell_other _ _ _ _ (by simp), b3]
  refine ⟨?_, ?_, ?_, World.cell?_setCell_same _ ⟨R, 3, none⟩ u e3, ?_, ?_, ?_, ?_⟩
  · unfold Go.Proofs.YtopghlnoklajkaaGreatDoor.set4; rw [World.cell?_setCell_other _ _ _ _ (by simp), World.cell?_setCell_other _ _ _ _ (by simp), World.cell?_setCell_other _ _ _ _ (by simp), a0]
  · unfold Go.Proofs.YtopghlnoklajkaaGreatDoor.set4; rw [World.cell?_setCell_other _ _ _ _ (by simp), World.cell?_setCell_other _ _ _ _ (by simp), b1]
  · unfold Go.Proofs.YtopghlnoklajkaaGreatDoor.set4; rw [World.cell?_setCell_other _ _ _ _ (by simp), e2]
  all_goals (unfold Go.Proofs.YtopghlnoklajkaaGreatDoor.set4; rw [World.frozen?_setCell, World.frozen?_setCell, World.frozen?_setCell, World.frozen?_setCell]; assumption)
theorem below_set4 {B : Nat} {w0 : World} (h : Below B w0 w) (hR : B ≤ R) (x y z u : Value) : Below B w0 (set4 w R x y z u) :=
  (((h.setCell (p := ⟨R, 0, none⟩) hR x).setCell (p := ⟨R, 1, none⟩) hR y).setCell (p := ⟨R, 2, none⟩) hR z).setCell (p := ⟨R, 3, none⟩) hR u
/-- What the last stores of a function leave: the four cells, and all below as it was. -/
theorem Box4.last {w0 : World} (h : Box4 w R a b c d) (hb : Below w0.heap.size w0 w) (hR : w0.heap.size ≤ R) (x y z u : Value) :
    ((((w.setCell ⟨R, 0, none⟩ x).setCell ⟨R, 1, none⟩ y).setCell ⟨R, 2, none⟩ z).setCell ⟨R, 3, none⟩ u).cell? ⟨R, 0, none⟩ = some x ∧
    ((((w.setCell ⟨R, 0, none⟩ x).setCell ⟨R, 1, none⟩ y).setCell ⟨R, 2, none⟩ z).setCell ⟨R, 3, none⟩ u).cell? ⟨R, 1, none⟩ = some y ∧
    ((((w.setCell ⟨R, 0, none⟩ x).setCell ⟨R, 1, none⟩ y).setCell ⟨R, 2, none⟩ z).setCell ⟨R, 3, none⟩ u).cell? ⟨R, 2, none⟩ = some z ∧
    ((((w.setCell ⟨R, 0, none⟩ x).setCell ⟨R, 1, none⟩ y).setCell ⟨R, 2, none⟩ z).setCell ⟨R, 3, none⟩ u).cell? ⟨R, 3, none⟩ = some u ∧
    Below w0.heap.size w0 ((((w.setCell ⟨R, 0, none⟩ x).setCell ⟨R, 1, none⟩ y).setCell ⟨R, 2, none⟩ z).setCell ⟨R, 3, none⟩ u) := by
  have h4 := h.set4 x y z u
  have hb4 := below_set4 (R := R) hb hR x y z u
  unfold Go.Proofs.YtopghlnoklajkaaGreatDoor.set4 at h4 hb4
  exact ⟨h4.c0, h4.c1, h4.c2, h4.c3, hb4⟩
abbrev zero4 (w : World) (R : Nat) : Prop := Box4 w R (.int .i64 0) (.int .i64 0) (.string ⟨#[]⟩) (.slice none 0 0)
end Go.Proofs.YtopghlnoklajkaaGreatDoor

namespace Go.Proofs.YtopghlnoklajkaaGreatDoor
open Go.RowKit

theorem below_one (w : World) (o : Obj) : Below w.heap.size w (w.alloc o) := (Below.refl _ w).alloc (Nat.le_refl _) o
/-- A value that reads, of its first k elements, as the mark of the owner i; blocks have owners. -/
def Ent (w : World) (e : TypeId) (sz : Nat) (mk : Nat → List Value) (col : Nat → Nat) (i : Nat) (v : Value) (k : Nat) : Prop :=
  (v = .slice none 0 0 ∧ k = 0) ∨ ∃ g n c cur, v = .slice (some ⟨g, 0, none⟩) n c ∧ col g = i ∧ w.heap[g]? = some (Obj.cells cur e (0, 0)) ∧ (n ≤ c ∧ c ≤ maxLen ∧ cur.size = c * sz) ∧ ∀ j, j < k * sz → cur[j]? = (mk i)[j % sz]?

section
variable {w w' : World} {e : TypeId} {sz : Nat} {mk : Nat → List Value} {col : Nat → Nat} {i : Nat} {v : Value} {k : Nat}

theorem Ent.same (h : Ent w e sz mk col i v k) (hb : ∀ (g : Nat) cur, w.heap[g]? = some (Obj.cells cur e (0, 0)) → w'.heap[g]? = w.heap[g]?) : Ent w' e sz mk col i v k := by
  rcases h with h | ⟨g, n, c, cur, h1, h2, h3, h4⟩
  · exact .inl h
  · exact .inr ⟨g, n, c, cur, h1, h2, by rw [hb g cur h3]; exact h3, h4⟩
theorem heap_lt {g : Nat} {o : Obj} (h : w.heap[g]? = some o) : g < w.heap.size := (Array.getElem?_eq_some_iff.1 h).1
theorem Ent.below (h : Ent w e sz mk col i v k) (hb : Below w.heap.size w w') : Ent w' e sz mk col i v k := h.same fun g _ hg => hb.block g (heap_lt hg)
/-- Another row grew. -/
theorem Ent.grown {B n : Nat} {e2 : TypeId} {s2 : Nat} {u : Value} {xs : List Value} (h : Ent w e sz mk col i v k) (hu : w.ownsRow B e2 s2 u n xs) (hg : w.grownBy w' u.ownBlock) (hne : e2 ≠ e) : Ent w' e sz mk col i v k :=
  h.same fun g cur hc => hg.block g (heap_lt hc) fun hk => by
    rcases hu.2 with ⟨rfl, _⟩ | ⟨g', cap, cur', rfl, _, hh, _⟩
    · simp [Value.ownBlock] at hk
    · have : g = g' := by simpa [Value.ownBlock] using hk
      subst this
      rw [hh] at hc
      injection hc with hc
      injection hc with _ ht
      exact hne ht
/-- A store of the owner's mark into a cell. -/
theorem Ent.set {g p : Nat} {m : Value} (h : Ent w e sz mk col i v k) (hm : (mk (col g))[p % sz]? = some m) : Ent (w.setCell ⟨g, p, none⟩ m) e sz mk col i v k := by
  rcases h with h | ⟨g', n, c, cur, h1, h2, h3, h4, h5⟩
  · exact .inl h
  · by_cases hg : g = g'
    · subst hg
      have hb : (w.setCell ⟨g, p, none⟩ m).heap[g]? = some (Obj.cells (cur.setIfInBounds p m) e (0, 0)) := by simp [World.setCell, Array.getElem?_modify, h3]
      refine .inr ⟨g, n, c, _, h1, h2, hb, by simpa using h4, fun j hj => ?_⟩
      rw [Array.getElem?_setIfInBounds]
      by_cases hp : p = j
      · subst hp
        rw [h2] at hm
        have := h5 p hj
        rw [if_pos rfl, hm]
        split
        · rfl
        · rename_i hz
          rw [Array.getElem?_eq_none (by omega), hm] at this; cases this
      · rw [if_neg hp]; exact h5 j hj
    · exact .inr ⟨g', n, c, cur, h1, h2, by rw [Below.heap_setCell _ _ _ _ (Ne.symm hg)]; exact h3, h4, h5⟩
/-- The next element, of one cell, is marked. -/
theorem Ent.next {g n c : Nat} {m : Value} (h : Ent w e 1 mk col i (.slice (some ⟨g, 0, none⟩) n c) k) (hk : k < n) (hm : mk i = [m]) : Ent (w.setCell ⟨g, k, none⟩ m) e 1 mk col i (.slice (some ⟨g, 0, none⟩) n c) (k + 1) := by
  rcases h with ⟨h, _⟩ | ⟨g', n', c', cur, h1, h2, h3, h4, h5⟩
  · cases h
  · injection h1 with e1 e2 e3
    have eg : g = g' := by simpa using e1
    subst eg e2 e3
    have hb : (w.setCell ⟨g, k, none⟩ m).heap[g]? = some (Obj.cells (cur.setIfInBounds k m) e (0, 0)) := by simp [World.setCell, Array.getElem?_modify, h3]
    refine .inr ⟨g, n, c, _, rfl, h2, hb, by simpa using h4, fun j hj => ?_⟩
    rw [Array.getElem?_setIfInBounds]
    by_cases hp : k = j
    · subst hp
      rw [if_pos rfl, if_pos (by omega), hm, Nat.mod_one]; rfl
    · rw [if_neg hp]; exact h5 j (by omega)
/-- What is read. -/
theorem Ent.cell {n k' : Nat} {x : Option Addr} {c : Nat} {m : Value} (h : Ent w e 1 mk col i (.slice x n c) n) (hk : k' < n) (hm : mk i = [m]) : ∃ g, x = some ⟨g, 0, none⟩ ∧ g < w.heap.size ∧ w.cell? ⟨g, k', none⟩ = some m := by
  rcases h with ⟨h, h0⟩ | ⟨g, n', c', cur, h1, h2, h3, h4, h5⟩
  · omega
  · injection h1 with e1 e2 e3
    subst e1
    refine ⟨g, rfl, heap_lt h3, ?_⟩
    rw [cell_of_row w g k' cur e (0, 0) h3, h5 k' (by omega), hm, Nat.mod_one]; rfl
end

end Go.Proofs.YtopghlnoklajkaaGreatDoor

namespace Go.Proofs.YtopghlnoklajkaaGreatDoor
open Go.ChangeShapes Go.WideShapes Go.ChangeAt Go.RowKit

def pCells (p : PcB) : List Value := [.string ⟨p.1.toArray⟩, .bool p.2]
def pFlat (l : List PcB) : List Value := l.flatMap pCells
section
variable {w w' : World} {B B1 B2 n n1 n2 s1 s2 : Nat} {e e1 e2 : TypeId} {v v1 v2 : Value} {xs xs1 xs2 : List Value}
/-- Rows are apart by the types of what is in them. -/
theorem rowApart (h1 : w.ownsRow B1 e1 s1 v1 n1 xs1) (h2 : w.ownsRow B2 e2 s2 v2 n2 xs2) (hne : e1 ≠ e2) : v1.ownBlock = none ∨ v1.ownBlock ≠ v2.ownBlock := by
  rcases h1.2 with ⟨rfl, _⟩ | ⟨g, cap, cur, rfl, _, hg, _⟩
  · exact .inl rfl
  · refine .inr fun h => ?_
    rcases h2.2 with ⟨rfl, _⟩ | ⟨g2, cap2, cur2, rfl, _, hg2, _⟩
    · simp [Value.ownBlock] at h
    · have : g = g2 := by simpa [Value.ownBlock] using h
      subst this
      rw [hg] at hg2
      injection hg2 with hg2
      injection hg2 with _ ht _
      exact hne ht
theorem rowBelow (h : w.ownsRow B e n v n1 xs) (hb : Below w.heap.size w w') : w'.ownsRow B e n v n1 xs :=
  h.kept (row := none) ⟨hb.os, hb.tape, hb.output, hb.size, fun k hk _ => hb.block k hk⟩ (by cases h2 : v.ownBlock with | none => exact Or.inl rfl | some _ => exact Or.inr (by simp))
theorem grownAlloc {o : Obj} {row : Option Nat} (hg : (w.alloc o).grownBy w' row) : w.grownBy w' row :=
  ⟨hg.os, hg.tape, hg.output, Nat.le_trans (by simp) hg.size, fun k hk hne => (hg.block k (by simp; omega) hne).trans ((below_one w o).block k hk)⟩
/-- A row of another type stays where a row grows. -/
theorem rowGrown (h1 : w.ownsRow B1 e1 s1 v1 n1 xs1) (h2 : w.ownsRow B2 e2 s2 v2 n2 xs2) (hne : e1 ≠ e2) {o : Obj} (hg : (w.alloc o).grownBy w' v2.ownBlock) : w'.ownsRow B1 e1 s1 v1 n1 xs1 := h1.kept (grownAlloc hg) (rowApart h1 h2 hne)
end
end Go.Proofs.YtopghlnoklajkaaGreatDoor

namespace Go.Proofs.YtopghlnoklajkaaGreatDoor
open Go.ChangeShapes Go.WideShapes Go.ChangeAt Go.RowKit

/-- A round of Pieces: the pieces so far, and the bytes of the one that is under way. -/
structure PcAt (w wr : World) (lv bv : Value) (ps : List PcB) (bs : List UInt8) : Prop where
  below : Below w.heap.size w wr
  l : wr.ownsRow w.heap.size 71 2 lv ps.length (pFlat ps)
  b : wr.ownsRow w.heap.size 5 1 bv bs.length (bs.map b8)
section
variable {w wr w' : World} {lv bv v' : Value} {ps ps' : List PcB} {bs bs' : List UInt8}
theorem PcAt.start (w : World) : PcAt w w (.slice none 0 0) (.slice none 0 0) [] [] := ⟨Below.refl _ _, World.ownsRow_nil _ _ _ _, World.ownsRow_nil _ _ _ _⟩
theorem PcAt.next (h : PcAt w wr lv bv ps bs) (hb : w'.ownsRow w.heap.size 5 1 v' bs'.length (bs'.map b8)) {o : Obj} (hg : (wr.alloc o).grownBy w' bv.ownBlock) : PcAt w w' lv v' ps bs' :=
  ⟨(h.below.alloc h.below.size _).grown hg (Nat.le_trans h.below.size (below_one wr o).size) (fun k hk => (h.b.lt k hk).1), rowGrown h.l h.b (by decide) hg, hb⟩
theorem PcAt.more (h : PcAt w wr lv bv ps bs) (hl : w'.ownsRow w.heap.size 71 2 v' ps'.length (pFlat ps')) {o : Obj} (hg : (wr.alloc o).grownBy w' lv.ownBlock) : PcAt w w' v' (.slice none 0 0) ps' [] :=
  ⟨(h.below.alloc h.below.size _).grown hg (Nat.le_trans h.below.size (below_one wr o).size) (fun k hk => (h.l.lt k hk).1), hl, World.ownsRow_nil _ _ _ _⟩
end
end Go.Proofs.YtopghlnoklajkaaGreatDoor

namespace Go.Proofs.YtopghlnoklajkaaGreatDoor
open Go.RowKit

theorem wpList_append_eq {P : Program} {w w' : World} {ops : Array Oper} {rest : List Oper} {o : Oper} {a : Act} {Q : Exit → Act → World → Prop} (hgd : o.guard = none) (s x : Operand) (t t2 : TypeId)
    (ho : o.op = .call { callee := .builtin .append, args := #[s, x], argTypes := #[t, t2] }) (v u v' : Value) (hs : a.eval s = v) (hx : a.eval x = u)
    (hr : (Builtin.append_ #[t, t2] o.type #[v, u]).run P w = .ok v' w') (h : wpList P ops Q rest (a.put o.dst v') w') : wpList P ops Q (o :: rest) a w :=
  wpList_plain hgd fun _ hK => by
    unfold Oper.wp execOp
    simp only [ho, resolve, invoke, builtin, Sem.run_bind, Sem.run_pure, Result.andThen_ok, List.map_toArray, List.map_cons, List.map_nil, hs, hx, hr]
    exact hK _ _ h
/-- What a copy leaves, whatever the size of an element. -/
theorem run_copy_rowN {P : Program} (w : World) (dT sT ty elem : TypeId) (g o dLen dCap : Nat) (a : Addr) (sLen sCap n : Nat) (cur : Array Value) (t : TypeId) (cs : List Value) (i : TypeInfo)
    (hu : P.underlying dT = some (.slice elem)) (hi : P.info? elem = some i)
    (hg : w.heap[g]? = some (.cells cur t (0, 0))) (hm : Nat.min sLen dLen = n) (hn : cs.length = n * i.size)
    (hsrc : ∀ j v, cs[j]? = some v → w.cell? (a.add j) = some v) (hfit : o + cs.length ≤ cur.size) (h1 : ∀ v ∈ cs, v.oneCell' = true) :
    (Builtin.copy_ #[dT, sT] ty #[.slice (some ⟨g, o, none⟩) dLen dCap, .slice (some a) sLen sCap]).run P w =
      .ok (goInt n) (w.setRow g (cur.toList.take o ++ cs ++ cur.toList.drop (o + cs.length)).toArray) := by
  subst hm
  have hl := run_loadCells_list (P := P) w a cs hsrc
  have hst := run_storeCells_at P g o t cs 0 cur w hg (by simpa using hfit) h1
  simp [Builtin.copy_, run_underlying hu, Builtin.lenOf, Builtin.firstCells, sizeOf, typeInfo, hi, ← hn, hl, hst]
end Go.Proofs.YtopghlnoklajkaaGreatDoor
