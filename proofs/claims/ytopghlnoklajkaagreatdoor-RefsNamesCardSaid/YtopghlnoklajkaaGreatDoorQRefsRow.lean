/-
  RefsRow.
-/
import Derived.Test.YtopghlnoklajkaaGreatDoorQRefsMath
import Derived.Test.YtopghlnoklajkaaGreatDoorQBytes
import Derived.Test.YtopghlnoklajkaaGreatDoorQValueLib
import Derived.Test.YtopghlnoklajkaaGreatDoorQMarks
import Derived.Deep.AppendLies
namespace Go.Proofs.YtopghlnoklajkaaGreatDoor
open Go.ChangeShapes Go.WideShapes Go.ChangeAt Go.RowKit

def pCells (p : PcB) : List Value := [.string ⟨p.1.toArray⟩, .bool p.2]
def pFlat (l : List PcB) : List Value := l.flatMap pCells
theorem pFlat_len (l : List PcB) : (pFlat l).length = l.length * 2 := by
  unfold pFlat
  induction l with
  | nil => rfl
  | cons p r ih => rw [List.flatMap_cons, List.length_append, ih]; simp [pCells]; omega
theorem pFlat_app (a b : List PcB) : pFlat (a ++ b) = pFlat a ++ pFlat b := by unfold pFlat; rw [List.flatMap_append]
theorem pFlat_one (l : List PcB) : ∀ v ∈ pFlat l, v.oneCell' = true := by
  intro v hv
  obtain ⟨p, _, hp⟩ := List.mem_flatMap.1 hv
  unfold pCells at hp
  simp only [List.mem_cons, List.not_mem_nil, or_false] at hp
  rcases hp with rfl | rfl <;> rfl
theorem pFlat_at (l : List PcB) : ∀ k (h : k < l.length) j, j < 2 → (pFlat l)[k * 2 + j]? = (pCells l[k])[j]? := by
  induction l with
  | nil => intro k h; simp at h
  | cons p r ih =>
    intro k h j hj
    unfold pFlat
    rw [List.flatMap_cons]
    cases k with
    | zero =>
      rw [Nat.zero_mul, Nat.zero_add, List.getElem?_append_left (by simp [pCells]; omega)]
      rfl
    | succ k =>
      rw [List.getElem?_append_right (by simp [pCells]; omega)]
      have := ih k (by simpa using h) j hj
      simp only [List.getElem_cons_succ]
      rw [← this]
      unfold pFlat
      congr 1
      simp [pCells]
      omega
theorem infoPc : (Tryz.prog.info? 71).map (fun i => (i.zero, i.size, i.bytes)) = some (some (.agg #[.string ByteArray.empty, .bool false]), 2, 24) := by kernel_rfl
section
variable {w w' : World} {B B1 B2 n n1 n2 s1 s2 : Nat} {e e1 e2 : TypeId} {v v1 v2 : Value} {xs xs1 xs2 : List Value}
/-- Rows are apart by the types of what is in them. -/
theorem rowApart (h1 : w.ownsRow B1 e1 s1 v1 n1 xs1) (h2 : w.ownsRow B2 e2 s2 v2 n2 xs2) (hne : e1 ≠ e2) : v1.ownBlock = none ∨ v1.ownBlock ≠ v2.ownBlock := by
  rcases h1.2 with ⟨rfl, _⟩ | ⟨g, cap, cur, rfl, _, hg, _⟩
  · exact .inl rfl
  · refine .inr fun h => ?_
    rcases h2.2 with ⟨rfl, _⟩ | ⟨g2, cap2, cur2, rfl, _, hg2, _⟩
    · simp [Value.ownBlock] at h
    · have : g = g2 := by simpa [Value.ownBlock] using h
      subst this
      rw [hg] at hg2
      injection hg2 with hg2
      injection hg2 with _ ht _
      exact hne ht
theorem rowBelow (h : w.ownsRow B e n v n1 xs) (hb : Below w.heap.size w w') : w'.ownsRow B e n v n1 xs :=
  h.kept (row := none) ⟨hb.os, hb.tape, hb.output, hb.size, fun k hk _ => hb.block k hk⟩ (by cases h2 : v.ownBlock with | none => exact Or.inl rfl | some _ => exact Or.inr (by simp))
theorem grownAlloc {o : Obj} {row : Option Nat} (hg : (w.alloc o).grownBy w' row) : w.grownBy w' row :=
  ⟨hg.os, hg.tape, hg.output, Nat.le_trans (by simp) hg.size, fun k hk hne => (hg.block k (by simp; omega) hne).trans ((below_one w o).block k hk)⟩
/-- A row of another type stays where a row grows. -/
theorem rowGrown (h1 : w.ownsRow B1 e1 s1 v1 n1 xs1) (h2 : w.ownsRow B2 e2 s2 v2 n2 xs2) (hne : e1 ≠ e2) {o : Obj} (hg : (w.alloc o).grownBy w' v2.ownBlock) : w'.ownsRow B1 e1 s1 v1 n1 xs1 := h1.kept (grownAlloc hg) (rowApart h1 h2 hne)
end
/-- Bytes go to a row of bytes of a call's own. -/
theorem appendBy {ops : Array Oper} {rest : List Oper} {o : Oper} {a : Act} {Q : Exit → Act → World → Prop} (hgd : o.guard = none) (s x : Operand)
    (ho : o.op = .call { callee := .builtin .append, args := #[s, x], argTypes := #[30, 30] }) {B n : Nat} {w : World} {v : Value} {l : List UInt8} (hown : w.ownsRow B 5 1 v n (l.map b8)) (hB : B ≤ w.heap.size) (hn : n ≤ 10000000000) (c : UInt8) (z : Int) (hz : z = (c.toNat : Int)) (hs : a.eval s = v)
    {d g : Nat} (hx : a.eval x = .slice (some ⟨g, 0, none⟩) 1 d) (hg : g = w.heap.size)
    (h : ∀ y cap w', w'.ownsRow B 5 1 (.slice (some ⟨y, 0, none⟩) (n + 1) cap) (n + 1) ((l ++ [c]).map b8) → (w.alloc (Obj.cells #[.int .u8 z] 5)).grownBy w' v.ownBlock → wpList Tryz.prog ops Q rest (a.put o.dst (.slice (some ⟨y, 0, none⟩) (n + 1) cap)) w') :
    wpList Tryz.prog ops Q (o :: rest) a (w.alloc (Obj.cells #[.int .u8 z] 5)) := by
  subst hg hz
  obtain ⟨i0, hi, hz0, hz1, hz2⟩ := info_parts info8
  refine wpList_append_lies _ hgd s x _ ho B 5 i0 (.int .u8 0) 1 1 Tryz.underlying30 hi hz0 hz1 hz2 rfl (by decide) v n (l.map b8) hs (hown.alloc _) ⟨w.heap.size, 0, none⟩ 1 d [b8 c] hx rfl (World.news_of_block (heap_alloc_new w _)) ?_ (by decide) (by unfold maxLen; omega) (by omega) (Nat.le_trans hB (below_one w _).size) _ rfl ?_
  · intro u hu
    rw [List.mem_singleton.1 hu]; rfl
  · intro y cap w1 h1 h2 _ _
    exact h y cap w1 (by rw [List.map_append]; exact h1) h2
/-- Pieces go to a row of pieces of a call's own. -/
theorem appendPc {ops : Array Oper} {rest : List Oper} {o : Oper} {a : Act} {Q : Exit → Act → World → Prop} (hgd : o.guard = none) (s x : Operand)
    (ho : o.op = .call { callee := .builtin .append, args := #[s, x], argTypes := #[67, 67] }) {B n : Nat} {w : World} {v : Value} {l : List PcB} (hown : w.ownsRow B 71 2 v n (pFlat l)) (hB : B ≤ w.heap.size) (hn : n ≤ 10000000000) (ps : List PcB) (cs : Array Value) (hcs : cs = (pFlat ps).toArray) (hs : a.eval s = v)
    {m d g : Nat} (hm : ps.length = m) (hm0 : 0 < m) (hm9 : m ≤ 9) (hx : a.eval x = .slice (some ⟨g, 0, none⟩) m d) (hg : g = w.heap.size)
    (h : ∀ y cap w', w'.ownsRow B 71 2 (.slice (some ⟨y, 0, none⟩) (n + m) cap) (n + m) (pFlat (l ++ ps)) → (w.alloc (Obj.cells cs 71)).grownBy w' v.ownBlock → wpList Tryz.prog ops Q rest (a.put o.dst (.slice (some ⟨y, 0, none⟩) (n + m) cap)) w') :
    wpList Tryz.prog ops Q (o :: rest) a (w.alloc (Obj.cells cs 71)) := by
  subst hg hcs hm
  obtain ⟨i0, hi, hz0, hz1, hz2⟩ := info_parts infoPc
  refine wpList_append_lies _ hgd s x _ ho B 71 i0 _ 2 24 Tryz.underlying67 hi hz0 hz1 hz2 rfl (by decide) v n (pFlat l) hs (hown.alloc _) ⟨w.heap.size, 0, none⟩ ps.length d (pFlat ps) hx (pFlat_len ps) (World.news_of_block (heap_alloc_new w _)) (pFlat_one ps) hm0 (by unfold maxLen; omega) (by omega) (Nat.le_trans hB (below_one w _).size) _ rfl ?_
  intro y cap w1 h1 h2 _ _
  exact h y cap w1 (by rw [pFlat_app]; exact h1) h2
/-- The same as one step of a region that draws its order. -/
theorem stepPc {ops : Array Oper} {o : Oper} {a : Act} {W : World} {K : Act → World → Prop} {Q : Exit → Act → World → Prop} {E : Prop} (hgd : o.guard = none) (sl x : Operand)
    (ho : o.op = .call { callee := .builtin .append, args := #[sl, x], argTypes := #[67, 67] }) {B n : Nat} {v : Value} {l : List PcB} (hown : W.ownsRow B 71 2 v n (pFlat l)) (hB : B ≤ W.heap.size) (hn : n ≤ 10000000000) (ps : List PcB) (hs : a.eval sl = v)
    {g m c : Nat} (hm : ps.length = m) (hm0 : 0 < m) (hm9 : m ≤ 9) (hx : a.eval x = .slice (some ⟨g, 0, none⟩) m c) (hk : ∀ j u, (pFlat ps)[j]? = some u → W.cell? ⟨g, j, none⟩ = some u)
    (h : ∀ g2 cap W2, W2.ownsRow B 71 2 (.slice (some ⟨g2, 0, none⟩) (n + m) cap) (n + m) (pFlat (l ++ ps)) → W.grownBy W2 v.ownBlock → K (a.put o.dst (.slice (some ⟨g2, 0, none⟩) (n + m) cap)) W2) :
    if Region.wanted o (yielded ops a.tmps) = true then Oper.wp Tryz.prog o a W K Q else E := by
  subst hm
  obtain ⟨i0, hi, hz0, hz1, hz2⟩ := info_parts infoPc
  refine step_append_lies _ hgd sl x _ ho B 71 i0 _ 2 24 Tryz.underlying67 hi hz0 hz1 hz2 rfl (by decide) v n (pFlat l) hs hown ⟨g, 0, none⟩ ps.length c (pFlat ps) hx (pFlat_len ps) (fun j u hu => by rw [add_zero_at]; exact hk j u hu) (pFlat_one ps) hm0 (by unfold maxLen; omega) (by omega) hB _ rfl ?_
  intro g2 cap W2 h1 h2 _ _
  exact h g2 cap W2 (by rw [pFlat_app]; exact h1) h2
end Go.Proofs.YtopghlnoklajkaaGreatDoor
