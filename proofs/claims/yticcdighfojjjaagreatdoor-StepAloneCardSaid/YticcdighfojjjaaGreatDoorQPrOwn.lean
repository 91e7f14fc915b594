/-
  PrOwn.
-/
import Derived.Test.YticcdighfojjjaaGreatDoorQPrKit
import Derived.Test.YticcdighfojjjaaGreatDoorQBut
import Derived.Laws.MakeOwn
namespace Go.Proofs.YticcdighfojjjaaGreatDoor
open Go.ChangeShapes Go.WideShapes Go.ChangeAt Go.RowKit

def zP : PairV := ⟨⟨#[]⟩, ⟨#[]⟩, ⟨#[]⟩⟩
/-- A whole block of lines. -/
def RowPr (w : World) (g : Nat) (ls : List PairV) : Prop := w.heap[g]? = some (Obj.cells (pFlat ls).toArray 51 (0, 0))
section
variable {w w' : World} {g : Nat} {ls : List PairV}
theorem RowPr.lt (h : RowPr w g ls) : g < w.heap.size := (Array.getElem?_eq_some_iff.1 h).1
theorem RowPr.below (h : RowPr w g ls) (hb : Below w.heap.size w w') : RowPr w' g ls := by unfold RowPr; rw [hb.block g h.lt]; exact h
theorem RowPr.drew (h : RowPr w g ls) : RowPr w.drew g ls := h
theorem RowPr.cell (h : RowPr w g ls) (j : Nat) : w.cell? ⟨g, j, none⟩ = (pFlat ls)[j]? := by
  rw [cell_of_row w g j _ _ _ h]; simp
theorem RowPr.frozen (h : RowPr w g ls) (j : Nat) : w.frozen? ⟨g, j, none⟩ = false := by simp [World.frozen?, show w.heap[g]? = _ from h]
theorem RowPr.prs (h : RowPr w g ls) : PrsAt w (some ⟨g, 0, none⟩) ls := PrsAt.of_cells h.lt fun j u hj => by rw [Nat.zero_add, h.cell]; exact hj
theorem RowPr.at0 (h : RowPr w g ls) {k : Nat} (hk : k < ls.length) : w.cell? ⟨g, k * 3, none⟩ = some (.string ls[k].table) := by
  rw [h.cell]; exact pFlat_at ls k hk 0 (by decide)
theorem RowPr.at1 (h : RowPr w g ls) {k : Nat} (hk : k < ls.length) : w.cell? ⟨g, k * 3 + 1, none⟩ = some (.string ls[k].key) := by
  rw [h.cell]; exact pFlat_at ls k hk 1 (by decide)
theorem RowPr.at2 (h : RowPr w g ls) {k : Nat} (hk : k < ls.length) : w.cell? ⟨g, k * 3 + 2, none⟩ = some (.string ls[k].value) := by
  rw [h.cell]; exact pFlat_at ls k hk 2 (by decide)
theorem pFlat_put (ls : List PairV) (k : Nat) (hk : k < ls.length) (l : PairV) : (((pFlat ls).set (k * 3) (.string l.table)).set (k * 3 + 1) (.string l.key)).set (k * 3 + 2) (.string l.value) = pFlat (ls.set k l) := by
  apply List.ext_getElem?
  intro j
  have hl1 := pFlat_len ls
  by_cases hj : j < ls.length * 3
  · obtain ⟨q, r, hr, rfl⟩ : ∃ q r, r < 3 ∧ j = q * 3 + r := ⟨j / 3, j % 3, Nat.mod_lt _ (by decide), by omega⟩
    have hq : q < ls.length := by omega
    rw [pFlat_at (ls.set k l) q (by simpa using hq) r hr]
    have h3 : r = 0 ∨ r = 1 ∨ r = 2 := by omega
    by_cases e : k = q
    · subst e
      rw [List.getElem_set_self]
      rcases h3 with rfl | rfl | rfl
      · rw [List.getElem?_set_ne (by omega), List.getElem?_set_ne (by omega), Nat.add_zero, List.getElem?_set_self (by omega)]; rfl
      · rw [List.getElem?_set_ne (by omega), List.getElem?_set_self (by simp; omega)]; rfl
      · rw [List.getElem?_set_self (by simp; omega)]; rfl
    · rw [List.getElem_set_ne e, List.getElem?_set_ne (by omega), List.getElem?_set_ne (by omega), List.getElem?_set_ne (by omega), pFlat_at ls q hq r hr]
  · rw [List.getElem?_eq_none (by simp; omega), List.getElem?_eq_none (by rw [pFlat_len, List.length_set]; omega)]
theorem set_same_atP {α : Type} (l : List α) (k : Nat) (v : α) (h : l[k]? = some v) : l.set k v = l := by
  apply List.ext_getElem?
  intro j
  by_cases e : k = j
  · subst e
    have : k < l.length := (List.getElem?_eq_some_iff.1 h).1
    rw [List.getElem?_set_self this, h]
  · rw [List.getElem?_set_ne e]
theorem pFlat_table (ls : List PairV) (k : Nat) (hk : k < ls.length) (s : ByteArray) : (pFlat ls).set (k * 3) (.string s) = pFlat (ls.set k ⟨s, ls[k].key, ls[k].value⟩) := by
  rw [← pFlat_put ls k hk]
  have h1 := pFlat_at ls k hk 1 (by decide)
  have h2 := pFlat_at ls k hk 2 (by decide)
  have hl := pFlat_len ls
  rw [set_same_atP _ (k * 3 + 1) _ (by rw [List.getElem?_set_ne (by omega), h1]; rfl), set_same_atP _ (k * 3 + 2) _ (by rw [List.getElem?_set_ne (by omega), h2]; rfl)]
theorem RowPr.set1 (h : RowPr w g ls) (j : Nat) (v : Value) : (w.setCell ⟨g, j, none⟩ v).heap[g]? = some (Obj.cells ((pFlat ls).set j v).toArray 51 (0, 0)) := by
  have h' : w.heap[g]? = _ := h
  simp [World.setCell, Array.getElem?_modify, h']
/-- A name is written over. -/
theorem RowPr.table (h : RowPr w g ls) {k : Nat} (hk : k < ls.length) (s : ByteArray) : RowPr (w.setCell ⟨g, k * 3, none⟩ (.string s)) g (ls.set k ⟨s, ls[k].key, ls[k].value⟩) := by
  unfold RowPr
  rw [h.set1, pFlat_table ls k hk]
/-- A whole line is written over. -/
theorem RowPr.put (h : RowPr w g ls) {k : Nat} (hk : k < ls.length) (l : PairV) : RowPr (((w.setCell ⟨g, k * 3, none⟩ (.string l.table)).setCell ⟨g, k * 3 + 1, none⟩ (.string l.key)).setCell ⟨g, k * 3 + 2, none⟩ (.string l.value)) g (ls.set k l) := by
  have h' : w.heap[g]? = _ := h
  unfold RowPr
  rw [← pFlat_put ls k hk]
  simp [World.setCell, Array.getElem?_modify, h']
end
theorem add_at3P (g off j : Nat) : (⟨g, off, none⟩ : Addr).add j = ⟨g, off + j, none⟩ := by unfold Addr.add; split <;> simp_all
theorem made_prs (n : Nat) : madeCells (Value.agg #[.string ByteArray.empty, .string ByteArray.empty, .string ByteArray.empty]).cells (n * 3) = (pFlat (List.replicate n zP)).toArray := by
  apply Array.ext'
  rw [List.toList_toArray]
  apply List.ext_getElem?
  intro j
  have hl := pFlat_len (List.replicate n zP)
  rw [List.length_replicate] at hl
  by_cases hj : j < n * 3
  · obtain ⟨q, r, hr, rfl⟩ : ∃ q r, r < 3 ∧ j = q * 3 + r := ⟨j / 3, j % 3, Nat.mod_lt _ (by decide), by omega⟩
    rw [pFlat_at _ q (by rw [List.length_replicate]; omega) r hr, List.getElem_replicate, Array.getElem?_toList]
    have hm : (q * 3 + r) % 3 = r := by omega
    have hg : (madeCells (Value.agg #[.string ByteArray.empty, .string ByteArray.empty, .string ByteArray.empty]).cells (n * 3))[q * 3 + r]? = some ((Value.agg #[.string ByteArray.empty, .string ByteArray.empty, .string ByteArray.empty]).cells[(q * 3 + r) % 3]!) := by
      unfold madeCells
      rw [Array.getElem?_map, Array.getElem?_eq_getElem (by simpa using hj)]
      simp [Value.cells]
    rw [hg, hm]
    have h3 : r = 0 ∨ r = 1 ∨ r = 2 := by omega
    rcases h3 with rfl | rfl | rfl <;> rfl
  · rw [List.getElem?_eq_none (l := pFlat (List.replicate n zP)) (i := j) (by omega), List.getElem?_eq_none (by rw [Array.length_toList, size_madeCells]; omega)]
theorem run_madeP (w : World) (n : Nat) (hn : n ≤ 4294967296) :
    (Instr.makeSlice 37 (.int .i64 (n : Int)) (.int .i64 (n : Int))).run Tryz.prog w = .ok (.slice (some ⟨w.heap.size, 0, none⟩) n n) (w.alloc (Obj.cells (pFlat (List.replicate n zP)).toArray 51)) := by
  obtain ⟨i0, hi, hz0, hz1, hz2⟩ := info_parts infoPr
  have := run_make (P := Tryz.prog) w 37 51 i0 _ Tryz.underlying37 hi hz0 .i64 .i64 (n : Int) (n : Int) (by omega) (by omega) (by rw [hz2]; omega) (by omega)
  rw [hz1, Int.toNat_natCast, made_prs] at this
  exact this
set_option maxRecDepth 100000 in
/-- 'copy(own, l)' where own was made longer. -/
theorem run_copyP (W : World) (g n c m : Nat) (x : Option Addr) (ls : List PairV) (hn : ls.length = n) (hg : RowPr W g (List.replicate (n + m) zP)) (hl : PrsAt W x ls) :
    ∃ W', (∀ ty : TypeId, (Builtin.copy_ #[37, 37] ty #[.slice (some ⟨g, 0, none⟩) (n + m) (n + m), .slice x n c]).run Tryz.prog W = .ok (goInt n) W') ∧ But g W W' ∧ RowPr W' g (ls ++ List.replicate m zP) := by
  obtain ⟨i0, hi, hz0, hz1, hz2⟩ := info_parts infoPr
  subst hn
  by_cases h0 : ls.length = 0
  · have he : ls = [] := List.eq_nil_of_length_eq_zero h0
    subst he
    refine ⟨W, fun ty => ?_, But.refl _ _, by simpa using hg⟩
    cases x with
    | none => simp [Builtin.copy_, run_underlying Tryz.underlying37, Builtin.lenOf, Builtin.firstCells, sizeOf, typeInfo, hi, storeCells, goInt]
    | some a =>
      have h0 := run_loadCells_list (P := Tryz.prog) W a [] (fun j v h => by simp at h)
      simp at h0
      simp [Builtin.copy_, run_underlying Tryz.underlying37, Builtin.lenOf, Builtin.firstCells, sizeOf, typeInfo, hi, h0, storeCells, goInt]
  · obtain ⟨b, off, hx, _, _⟩ := hl 0 (by omega)
    subst hx
    have hfl := pFlat_len ls
    have hlen2 := pFlat_len (List.replicate (ls.length + m) zP)
    rw [List.length_replicate] at hlen2
    have hsrc : ∀ j v, (pFlat ls)[j]? = some v → W.cell? ((⟨b, off, none⟩ : Addr).add j) = some v := by
      intro j v hj
      rw [add_at3P]
      have hjl : j < ls.length * 3 := by have := (List.getElem?_eq_some_iff.1 hj).1; omega
      obtain ⟨q, r, hr, rfl⟩ : ∃ q r, r < 3 ∧ j = q * 3 + r := ⟨j / 3, j % 3, Nat.mod_lt _ (by decide), by omega⟩
      have hq : q < ls.length := by omega
      obtain ⟨b', off', e, _, a0, a1, a2⟩ := hl q hq
      obtain ⟨rfl, rfl⟩ : b = b' ∧ off = off' := by simpa using e
      rw [pFlat_at ls q hq r hr] at hj
      have h3 : r = 0 ∨ r = 1 ∨ r = 2 := by omega
      rcases h3 with rfl | rfl | rfl
      · rw [← Option.some.inj hj]; exact a0
      · rw [← Option.some.inj hj, ← Nat.add_assoc]; exact a1
      · rw [← Option.some.inj hj, ← Nat.add_assoc]; exact a2
    have hone : ∀ v ∈ pFlat ls, v.oneCell' = true := by
      intro v hv
      unfold pFlat at hv
      obtain ⟨l, _, hv⟩ := List.mem_flatMap.1 hv
      exact pCells_one l v hv
    have hr := fun ty : TypeId => run_copy_rowN (P := Tryz.prog) W 37 37 ty 51 g 0 (ls.length + m) (ls.length + m) ⟨b, off, none⟩ ls.length c ls.length _ _ (pFlat ls) i0 Tryz.underlying37 hi hg (Nat.min_eq_left (by omega)) (by rw [hz1]; exact hfl) hsrc (by simp; omega) hone
    refine ⟨_, hr, ⟨rfl, rfl, rfl, by simp, fun k hk hne => setRow_other W g k _ hne⟩, ?_⟩
    unfold RowPr
    rw [setRow_heap W g _ _ _ _ hg]
    congr 2
    rw [List.take_zero, List.nil_append, Nat.zero_add, List.toList_toArray]
    have : pFlat (List.replicate (ls.length + m) zP) = pFlat (List.replicate ls.length zP) ++ pFlat (List.replicate m zP) := by
      unfold pFlat
      rw [← List.flatMap_append]
      rw [List.replicate_append_replicate]
    rw [this, List.drop_append, List.drop_eq_nil_of_le (by rw [pFlat_len, List.length_replicate]; omega), pFlat_len (List.replicate ls.length zP), List.length_replicate, hfl, Nat.sub_self, List.drop_zero, List.nil_append]
    unfold pFlat
    rw [List.flatMap_append]
end Go.Proofs.YticcdighfojjjaaGreatDoor
