/-
  GivOwn.
-/
import Derived.Test.YtbgoooljkdjjhaaGreatDoorQGivKit
import Derived.Test.YtbgoooljkdjjhaaGreatDoorQRowOps
import Derived.Test.YtbgoooljkdjjhaaGreatDoorQBut
import Derived.Laws.MakeOwn
namespace Go.Proofs.YtbgoooljkdjjhaaGreatDoor
open Go.ChangeShapes Go.WideShapes Go.ChangeAt Go.RowKit

theorem gCells_one (g : GivV) : ∀ v ∈ gCells g, v.oneCell' = true := by
  intro u hu
  unfold gCells at hu
  simp only [List.mem_cons, List.not_mem_nil, or_false] at hu
  rcases hu with rfl | rfl | rfl <;> rfl
theorem gFlat_at (ls : List GivV) : ∀ k (h : k < ls.length) j, j < 3 → (gFlat ls)[k * 3 + j]? = (gCells ls[k])[j]? := by
  unfold gFlat
  induction ls with
  | nil => intro k h; cases h
  | cons l r ih =>
    intro k h j hj
    rw [List.flatMap_cons]
    cases k with
    | zero => rw [List.getElem?_append_left (by simp [gCells]; omega)]; simp
    | succ k =>
      rw [List.getElem?_append_right (by simp [gCells]; omega)]
      have : (k + 1) * 3 + j - (gCells l).length = k * 3 + j := by simp [gCells]; omega
      rw [this, ih k (by simpa using h) j hj]; simp
theorem Givs.nil_ (w : World) (x : Option Addr) : Givs w x [] := fun k h => absurd h (by simp)
theorem Givs.of_cells {w : World} {g off : Nat} {ls : List GivV} (hg : g < w.heap.size) (h : ∀ j u, (gFlat ls)[j]? = some u → w.cell? ⟨g, off + j, none⟩ = some u) : Givs w (some ⟨g, off, none⟩) ls := fun k hk => by
  have h0 := h (k * 3 + 0) _ (gFlat_at ls k hk 0 (by decide))
  have h1 := h (k * 3 + 1) _ (gFlat_at ls k hk 1 (by decide))
  have h2 := h (k * 3 + 2) _ (gFlat_at ls k hk 2 (by decide))
  refine ⟨g, off, rfl, hg, ?_, ?_, ?_⟩
  · simpa using h0
  · rw [Nat.add_assoc]; exact h1
  · rw [Nat.add_assoc]; exact h2
theorem Givs.of_own {w : World} {B n : Nat} {v : Value} {ls : List GivV} (h : w.ownsRow B 27 3 v n (gFlat ls)) (hn : ls.length = n) : ∃ x c, v = .slice x n c ∧ Givs w x ls := by
  rcases h.2 with ⟨h1, h2⟩ | ⟨g, cap, cur, h1, _, hg, _⟩
  · refine ⟨none, 0, by rw [h1, h2], ?_⟩
    have : ls = [] := List.eq_nil_of_length_eq_zero (by omega)
    rw [this]; exact Givs.nil_ _ _
  · refine ⟨_, _, h1, Givs.of_cells ?_ ?_⟩
    · exact (Array.getElem?_eq_some_iff.1 hg).1
    · intro j u hj
      have := World.ownsRow.cells h (g := g) (by rw [h1]; rfl) j u hj
      rw [add_at] at this
      exact this
theorem Givs.take {w : World} {x : Option Addr} {ls : List GivV} (h : Givs w x ls) (n : Nat) : Givs w x (ls.take n) := fun k hk => by
  have hk' : k < ls.length := by rw [List.length_take] at hk; omega
  obtain ⟨b, off, e, hl, c0, c1, c2⟩ := h k hk'
  exact ⟨b, off, e, hl, by rw [List.getElem_take]; exact c0, by rw [List.getElem_take]; exact c1, by rw [List.getElem_take]; exact c2⟩

def zG : GivV := ⟨⟨#[]⟩, ⟨#[]⟩, 0⟩
/-- A whole block of lines. -/
def RowG (w : World) (g : Nat) (ls : List GivV) : Prop := w.heap[g]? = some (Obj.cells (gFlat ls).toArray 27 (0, 0))
section
variable {w w' : World} {g : Nat} {ls : List GivV}
theorem RowG.lt (h : RowG w g ls) : g < w.heap.size := (Array.getElem?_eq_some_iff.1 h).1
theorem RowG.below (h : RowG w g ls) (hb : Below w.heap.size w w') : RowG w' g ls := by unfold RowG; rw [hb.block g h.lt]; exact h
theorem RowG.drew (h : RowG w g ls) : RowG w.drew g ls := h
theorem RowG.cell (h : RowG w g ls) (j : Nat) : w.cell? ⟨g, j, none⟩ = (gFlat ls)[j]? := by
  rw [cell_of_row w g j _ _ _ h]; simp
theorem RowG.frozen (h : RowG w g ls) (j : Nat) : w.frozen? ⟨g, j, none⟩ = false := by simp [World.frozen?, show w.heap[g]? = _ from h]
theorem RowG.givs (h : RowG w g ls) : Givs w (some ⟨g, 0, none⟩) ls := Givs.of_cells h.lt fun j u hj => by rw [Nat.zero_add, h.cell]; exact hj
theorem RowG.at0 (h : RowG w g ls) {k : Nat} (hk : k < ls.length) : w.cell? ⟨g, k * 3, none⟩ = some (.string ls[k].name) := by
  rw [h.cell]; exact gFlat_at ls k hk 0 (by decide)
theorem RowG.at1 (h : RowG w g ls) {k : Nat} (hk : k < ls.length) : w.cell? ⟨g, k * 3 + 1, none⟩ = some (.string ls[k].text) := by
  rw [h.cell]; exact gFlat_at ls k hk 1 (by decide)
theorem RowG.at2 (h : RowG w g ls) {k : Nat} (hk : k < ls.length) : w.cell? ⟨g, k * 3 + 2, none⟩ = some (.int .i64 ls[k].at_) := by
  rw [h.cell]; exact gFlat_at ls k hk 2 (by decide)
theorem gFlat_put (ls : List GivV) (k : Nat) (hk : k < ls.length) (l : GivV) : (((gFlat ls).set (k * 3) (.string l.name)).set (k * 3 + 1) (.string l.text)).set (k * 3 + 2) (.int .i64 l.at_) = gFlat (ls.set k l) := by
  apply List.ext_getElem?
  intro j
  have hl1 := gFlat_len ls
  by_cases hj : j < ls.length * 3
  · obtain ⟨q, r, hr, rfl⟩ : ∃ q r, r < 3 ∧ j = q * 3 + r := ⟨j / 3, j % 3, Nat.mod_lt _ (by decide), by omega⟩
    have hq : q < ls.length := by omega
    rw [gFlat_at (ls.set k l) q (by simpa using hq) r hr]
    have h3 : r = 0 ∨ r = 1 ∨ r = 2 := by omega
    by_cases e : k = q
    · subst e
      rw [List.getElem_set_self]
      rcases h3 with rfl | rfl | rfl
      · rw [List.getElem?_set_ne (by omega), List.getElem?_set_ne (by omega), Nat.add_zero, List.getElem?_set_self (by omega)]; rfl
      · rw [List.getElem?_set_ne (by omega), List.getElem?_set_self (by simp; omega)]; rfl
      · rw [List.getElem?_set_self (by simp; omega)]; rfl
    · rw [List.getElem_set_ne e, List.getElem?_set_ne (by omega), List.getElem?_set_ne (by omega), List.getElem?_set_ne (by omega), gFlat_at ls q hq r hr]
  · rw [List.getElem?_eq_none (by simp; omega), List.getElem?_eq_none (by rw [gFlat_len, List.length_set]; omega)]
theorem set_same_at {α : Type} (l : List α) (k : Nat) (v : α) (h : l[k]? = some v) : l.set k v = l := by
  apply List.ext_getElem?
  intro j
  by_cases e : k = j
  · subst e
    have : k < l.length := (List.getElem?_eq_some_iff.1 h).1
    rw [List.getElem?_set_self this, h]
  · rw [List.getElem?_set_ne e]
theorem gFlat_name (ls : List GivV) (k : Nat) (hk : k < ls.length) (s : ByteArray) : (gFlat ls).set (k * 3) (.string s) = gFlat (ls.set k ⟨s, ls[k].text, ls[k].at_⟩) := by
  rw [← gFlat_put ls k hk]
  have h1 := gFlat_at ls k hk 1 (by decide)
  have h2 := gFlat_at ls k hk 2 (by decide)
  have hl := gFlat_len ls
  rw [set_same_at _ (k * 3 + 1) _ (by rw [List.getElem?_set_ne (by omega), h1]; rfl), set_same_at _ (k * 3 + 2) _ (by rw [List.getElem?_set_ne (by omega), h2]; rfl)]
theorem RowG.set1 (h : RowG w g ls) (j : Nat) (v : Value) : (w.setCell ⟨g, j, none⟩ v).heap[g]? = some (Obj.cells ((gFlat ls).set j v).toArray 27 (0, 0)) := by
  have h' : w.heap[g]? = _ := h
  simp [World.setCell, Array.getElem?_modify, h']
/-- A name is written over. -/
theorem RowG.name (h : RowG w g ls) {k : Nat} (hk : k < ls.length) (s : ByteArray) : RowG (w.setCell ⟨g, k * 3, none⟩ (.string s)) g (ls.set k ⟨s, ls[k].text, ls[k].at_⟩) := by
  unfold RowG
  rw [h.set1, gFlat_name ls k hk]
/-- A whole line is written over. -/
theorem RowG.put (h : RowG w g ls) {k : Nat} (hk : k < ls.length) (l : GivV) : RowG (((w.setCell ⟨g, k * 3, none⟩ (.string l.name)).setCell ⟨g, k * 3 + 1, none⟩ (.string l.text)).setCell ⟨g, k * 3 + 2, none⟩ (.int .i64 l.at_)) g (ls.set k l) := by
  have h' : w.heap[g]? = _ := h
  unfold RowG
  rw [← gFlat_put ls k hk]
  simp [World.setCell, Array.getElem?_modify, h']
end
theorem add_at3 (g off j : Nat) : (⟨g, off, none⟩ : Addr).add j = ⟨g, off + j, none⟩ := by unfold Addr.add; split <;> simp_all
theorem made_givs (n : Nat) : madeCells (Value.agg #[.string ByteArray.empty, .string ByteArray.empty, .int .i64 0]).cells (n * 3) = (gFlat (List.replicate n zG)).toArray := by
  apply Array.ext'
  rw [List.toList_toArray]
  apply List.ext_getElem?
  intro j
  have hl := gFlat_len (List.replicate n zG)
  rw [List.length_replicate] at hl
  by_cases hj : j < n * 3
  · obtain ⟨q, r, hr, rfl⟩ : ∃ q r, r < 3 ∧ j = q * 3 + r := ⟨j / 3, j % 3, Nat.mod_lt _ (by decide), by omega⟩
    rw [gFlat_at _ q (by rw [List.length_replicate]; omega) r hr, List.getElem_replicate, Array.getElem?_toList]
    have hm : (q * 3 + r) % 3 = r := by omega
    have hg : (madeCells (Value.agg #[.string ByteArray.empty, .string ByteArray.empty, .int .i64 0]).cells (n * 3))[q * 3 + r]? = some ((Value.agg #[.string ByteArray.empty, .string ByteArray.empty, .int .i64 0]).cells[(q * 3 + r) % 3]!) := by
      unfold madeCells
      rw [Array.getElem?_map, Array.getElem?_eq_getElem (by simpa using hj)]
      simp [Value.cells]
    rw [hg, hm]
    have h3 : r = 0 ∨ r = 1 ∨ r = 2 := by omega
    rcases h3 with rfl | rfl | rfl <;> rfl
  · rw [List.getElem?_eq_none (l := gFlat (List.replicate n zG)) (i := j) (by omega), List.getElem?_eq_none (by rw [Array.length_toList, size_madeCells]; omega)]
theorem run_madeG (w : World) (n : Nat) (hn : n ≤ 2147483649) :
    (Instr.makeSlice 23 (.int .i64 (n : Int)) (.int .i64 (n : Int))).run Tryz.prog w = .ok (.slice (some ⟨w.heap.size, 0, none⟩) n n) (w.alloc (Obj.cells (gFlat (List.replicate n zG)).toArray 27)) := by
  obtain ⟨i0, hi, hz0, hz1, hz2⟩ := info_parts infoGv
  have := run_make (P := Tryz.prog) w 23 27 i0 _ Tryz.underlying23 hi hz0 .i64 .i64 (n : Int) (n : Int) (by omega) (by omega) (by rw [hz2]; omega) (by omega)
  rw [hz1, Int.toNat_natCast, made_givs] at this
  exact this
set_option maxRecDepth 100000 in
/-- 'copy(own, l)' where own was made longer. -/
theorem run_copyG (W : World) (g n c m : Nat) (x : Option Addr) (ls : List GivV) (hn : ls.length = n) (hg : RowG W g (List.replicate (n + m) zG)) (hl : Givs W x ls) :
    ∃ W', (∀ ty : TypeId, (Builtin.copy_ #[23, 23] ty #[.slice (some ⟨g, 0, none⟩) (n + m) (n + m), .slice x n c]).run Tryz.prog W = .ok (goInt n) W') ∧ But g W W' ∧ RowG W' g (ls ++ List.replicate m zG) := by
  obtain ⟨i0, hi, hz0, hz1, hz2⟩ := info_parts infoGv
  subst hn
  by_cases h0 : ls.length = 0
  · have he : ls = [] := List.eq_nil_of_length_eq_zero h0
    subst he
    refine ⟨W, fun ty => ?_, But.refl _ _, by simpa using hg⟩
    cases x with
    | none => simp [Builtin.copy_, run_underlying Tryz.underlying23, Builtin.lenOf, Builtin.firstCells, sizeOf, typeInfo, hi, storeCells, goInt]
    | some a =>
      have h0 := run_loadCells_list (P := Tryz.prog) W a [] (fun j v h => by simp at h)
      simp at h0
      simp [Builtin.copy_, run_underlying Tryz.underlying23, Builtin.lenOf, Builtin.firstCells, sizeOf, typeInfo, hi, h0, storeCells, goInt]
  · obtain ⟨b, off, hx, _, _⟩ := hl 0 (by omega)
    subst hx
    have hfl := gFlat_len ls
    have hlen2 := gFlat_len (List.replicate (ls.length + m) zG)
    rw [List.length_replicate] at hlen2
    have hsrc : ∀ j v, (gFlat ls)[j]? = some v → W.cell? ((⟨b, off, none⟩ : Addr).add j) = some v := by
      intro j v hj
      rw [add_at3]
      have hjl : j < ls.length * 3 := by have := (List.getElem?_eq_some_iff.1 hj).1; omega
      obtain ⟨q, r, hr, rfl⟩ : ∃ q r, r < 3 ∧ j = q * 3 + r := ⟨j / 3, j % 3, Nat.mod_lt _ (by decide), by omega⟩
      have hq : q < ls.length := by omega
      obtain ⟨b', off', e, _, a0, a1, a2⟩ := hl q hq
      obtain ⟨rfl, rfl⟩ : b = b' ∧ off = off' := by simpa using e
      rw [gFlat_at ls q hq r hr] at hj
      have h3 : r = 0 ∨ r = 1 ∨ r = 2 := by omega
      rcases h3 with rfl | rfl | rfl
      · rw [← Option.some.inj hj]; exact a0
      · rw [← Option.some.inj hj, ← Nat.add_assoc]; exact a1
      · rw [← Option.some.inj hj, ← Nat.add_assoc]; exact a2
    have hone : ∀ v ∈ gFlat ls, v.oneCell' = true := by
      intro v hv
      unfold gFlat at hv
      obtain ⟨l, _, hv⟩ := List.mem_flatMap.1 hv
      exact gCells_one l v hv
    have hr := fun ty : TypeId => run_copy_rowN (P := Tryz.prog) W 23 23 ty 27 g 0 (ls.length + m) (ls.length + m) ⟨b, off, none⟩ ls.length c ls.length _ _ (gFlat ls) i0 Tryz.underlying23 hi hg (Nat.min_eq_left (by omega)) (by rw [hz1]; exact hfl) hsrc (by simp; omega) hone
    refine ⟨_, hr, ⟨rfl, rfl, rfl, by simp, fun k hk hne => setRow_other W g k _ hne⟩, ?_⟩
    unfold RowG
    rw [setRow_heap W g _ _ _ _ hg]
    congr 2
    rw [List.take_zero, List.nil_append, Nat.zero_add, List.toList_toArray]
    have : gFlat (List.replicate (ls.length + m) zG) = gFlat (List.replicate ls.length zG) ++ gFlat (List.replicate m zG) := by
      unfold gFlat
      rw [← List.flatMap_append]
      rw [List.replicate_append_replicate]
    rw [this, List.drop_append, List.drop_eq_nil_of_le (by rw [gFlat_len, List.length_replicate]; omega), gFlat_len (List.replicate ls.length zG), List.length_replicate, hfl, Nat.sub_self, List.drop_zero, List.nil_append]
    unfold gFlat
    rw [List.flatMap_append]
end Go.Proofs.YtbgoooljkdjjhaaGreatDoor
