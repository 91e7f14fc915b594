/-
  Lists of lines in their owner's memory: made, copied, written into.
-/
import Derived.Test.YtbpbiakdigjcnaaDoorIniWeigh
import Derived.Test.YtbpbiakdigjcnaaDoorIniRefPrint
import Derived.Test.YtbpbiakdigjcnaaDoorRowOps
import Derived.Laws.MakeOwn
namespace Go.Proofs.YtbpbiakdigjcnaaDoor
open Go.ChangeShapes Go.WideShapes Go.ChangeAt Go.RowKit

def zLn : LineV := ⟨⟨#[]⟩, ⟨#[]⟩, 0⟩
/-- A whole block of lines. -/
def RowLn (w : World) (g : Nat) (ls : List LineV) : Prop := w.heap[g]? = some (Obj.cells (flatL ls).toArray 35 (0, 0))
section
variable {w w' : World} {g : Nat} {ls : List LineV}
theorem RowLn.lt (h : RowLn w g ls) : g < w.heap.size := (Array.getElem?_eq_some_iff.1 h).1
theorem RowLn.below (h : RowLn w g ls) (hb : Below w.heap.size w w') : RowLn w' g ls := by unfold RowLn; rw [hb.block g h.lt]; exact h
theorem RowLn.drew (h : RowLn w g ls) : RowLn w.drew g ls := h
theorem RowLn.cell (h : RowLn w g ls) (j : Nat) : w.cell? ⟨g, j, none⟩ = (flatL ls)[j]? := by
  rw [cell_of_row w g j _ _ _ h]; simp
theorem RowLn.frozen (h : RowLn w g ls) (j : Nat) : w.frozen? ⟨g, j, none⟩ = false := by simp [World.frozen?, show w.heap[g]? = _ from h]
theorem RowLn.lns (h : RowLn w g ls) : Lns w (some ⟨g, 0, none⟩) ls := Lns.of_cells h.lt fun j u hj => by rw [Nat.zero_add, h.cell]; exact hj
theorem RowLn.at0 (h : RowLn w g ls) {k : Nat} (hk : k < ls.length) : w.cell? ⟨g, k * 3, none⟩ = some (.string ls[k].name) := by
  rw [h.cell]; exact flatL_at ls k hk 0 (by decide)
theorem RowLn.at1 (h : RowLn w g ls) {k : Nat} (hk : k < ls.length) : w.cell? ⟨g, k * 3 + 1, none⟩ = some (.string ls[k].text) := by
  rw [h.cell]; exact flatL_at ls k hk 1 (by decide)
theorem RowLn.at2 (h : RowLn w g ls) {k : Nat} (hk : k < ls.length) : w.cell? ⟨g, k * 3 + 2, none⟩ = some (.int .i64 ls[k].num) := by
  rw [h.cell]; exact flatL_at ls k hk 2 (by decide)
theorem flatL_put (ls : List LineV) (k : Nat) (hk : k < ls.length) (l : LineV) : (((flatL ls).set (k * 3) (.string l.name)).set (k * 3 + 1) (.string l.text)).set (k * 3 + 2) (.int .i64 l.num) = flatL (ls.set k l) := by
  apply List.ext_getElem?
  intro j
  have hl1 := flatL_len ls
  by_cases hj : j < ls.length * 3
  · obtain ⟨q, r, hr, rfl⟩ : ∃ q r, r < 3 ∧ j = q * 3 + r := ⟨j / 3, j % 3, Nat.mod_lt _ (by decide), by omega⟩
    have hq : q < ls.length := by omega
    rw [flatL_at (ls.set k l) q (by simpa using hq) r hr]
    have h3 : r = 0 ∨ r = 1 ∨ r = 2 := by omega
    by_cases e : k = q
    · subst e
      rw [List.getElem_set_self]
      rcases h3 with rfl | rfl | rfl
      · rw [List.getElem?_set_ne (by omega), List.getElem?_set_ne (by omega), Nat.add_zero, List.getElem?_set_self (by omega)]; rfl
      · rw [List.getElem?_set_ne (by omega), List.getElem?_set_self (by simp; omega)]; rfl
      · rw [List.getElem?_set_self (by simp; omega)]; rfl
    · rw [List.getElem_set_ne e, List.getElem?_set_ne (by omega), List.getElem?_set_ne (by omega), List.getElem?_set_ne (by omega), flatL_at ls q hq r hr]
  · rw [List.getElem?_eq_none (by simp; omega), List.getElem?_eq_none (by rw [flatL_len, List.length_set]; omega)]
theorem set_same_at {α : Type} (l : List α) (k : Nat) (v : α) (h : l[k]? = some v) : l.set k v = l := by
  apply List.ext_getElem?
  intro j
  by_cases e : k = j
  · subst e
    have : k < l.length := (List.getElem?_eq_some_iff.1 h).1
    rw [List.getElem?_set_self this, h]
  · rw [List.getElem?_set_ne e]
theorem flatL_name (ls : List LineV) (k : Nat) (hk : k < ls.length) (s : ByteArray) : (flatL ls).set (k * 3) (.string s) = flatL (ls.set k ⟨s, ls[k].text, ls[k].num⟩) := by
  rw [← flatL_put ls k hk]
  have h1 := flatL_at ls k hk 1 (by decide)
  have h2 := flatL_at ls k hk 2 (by decide)
  have hl := flatL_len ls
  rw [set_same_at _ (k * 3 + 1) _ (by rw [List.getElem?_set_ne (by omega), h1]; rfl), set_same_at _ (k * 3 + 2) _ (by rw [List.getElem?_set_ne (by omega), h2]; rfl)]
theorem RowLn.set1 (h : RowLn w g ls) (j : Nat) (v : Value) : (w.setCell ⟨g, j, none⟩ v).heap[g]? = some (Obj.cells ((flatL ls).set j v).toArray 35 (0, 0)) := by
  have h' : w.heap[g]? = _ := h
  simp [World.setCell, Array.getElem?_modify, h']
/-- A name is written over. -/
theorem RowLn.name (h : RowLn w g ls) {k : Nat} (hk : k < ls.length) (s : ByteArray) : RowLn (w.setCell ⟨g, k * 3, none⟩ (.string s)) g (ls.set k ⟨s, ls[k].text, ls[k].num⟩) := by
  unfold RowLn
  rw [h.set1, flatL_name ls k hk]
/-- A whole line is written over. -/
theorem RowLn.put (h : RowLn w g ls) {k : Nat} (hk : k < ls.length) (l : LineV) : RowLn (((w.setCell ⟨g, k * 3, none⟩ (.string l.name)).setCell ⟨g, k * 3 + 1, none⟩ (.string l.text)).setCell ⟨g, k * 3 + 2, none⟩ (.int .i64 l.num)) g (ls.set k l) := by
  have h' : w.heap[g]? = _ := h
  unfold RowLn
  rw [← flatL_put ls k hk]
  simp [World.setCell, Array.getElem?_modify, h']
theorem below_set3 {B : Nat} (h : Below B w w') (hg : B ≤ g) (p q r : Nat) (a b c : Value) : Below B w (((w'.setCell ⟨g, p, none⟩ a).setCell ⟨g, q, none⟩ b).setCell ⟨g, r, none⟩ c) :=
  ((h.setCell (p := ⟨g, p, none⟩) hg a).setCell (p := ⟨g, q, none⟩) hg b).setCell (p := ⟨g, r, none⟩) hg c
end
theorem add_at3 (g off j : Nat) : (⟨g, off, none⟩ : Addr).add j = ⟨g, off + j, none⟩ := by unfold Addr.add; split <;> simp_all
theorem made_lines (n : Nat) : madeCells (Value.agg #[.string ByteArray.empty, .string ByteArray.empty, .int .i64 0]).cells (n * 3) = (flatL (List.replicate n zLn)).toArray := by
  apply Array.ext'
  rw [List.toList_toArray]
  apply List.ext_getElem?
  intro j
  have hl := flatL_len (List.replicate n zLn)
  rw [List.length_replicate] at hl
  by_cases hj : j < n * 3
  · obtain ⟨q, r, hr, rfl⟩ : ∃ q r, r < 3 ∧ j = q * 3 + r := ⟨j / 3, j % 3, Nat.mod_lt _ (by decide), by omega⟩
    rw [flatL_at _ q (by rw [List.length_replicate]; omega) r hr, List.getElem_replicate, Array.getElem?_toList]
    have hm : (q * 3 + r) % 3 = r := by omega
    have hg : (madeCells (Value.agg #[.string ByteArray.empty, .string ByteArray.empty, .int .i64 0]).cells (n * 3))[q * 3 + r]? = some ((Value.agg #[.string ByteArray.empty, .string ByteArray.empty, .int .i64 0]).cells[(q * 3 + r) % 3]!) := by
      unfold madeCells
      rw [Array.getElem?_map, Array.getElem?_eq_getElem (by simpa using hj)]
      simp [Value.cells]
    rw [hg, hm]
    have h3 : r = 0 ∨ r = 1 ∨ r = 2 := by omega
    rcases h3 with rfl | rfl | rfl <;> rfl
  · rw [List.getElem?_eq_none (l := flatL (List.replicate n zLn)) (i := j) (by omega), List.getElem?_eq_none (by rw [Array.length_toList, size_madeCells]; omega)]
theorem run_madeLn (w : World) (n : Nat) (hn : n ≤ 2147483649) :
    (Instr.makeSlice 27 (.int .i64 (n : Int)) (.int .i64 (n : Int))).run Tryd.prog w = .ok (.slice (some ⟨w.heap.size, 0, none⟩) n n) (w.alloc (Obj.cells (flatL (List.replicate n zLn)).toArray 35)) := by
  obtain ⟨i0, hi, hz0, hz1, hz2⟩ := info_parts infoLine
  have := run_make (P := Tryd.prog) w 27 35 i0 _ Tryd.underlying27 hi hz0 .i64 .i64 (n : Int) (n : Int) (by omega) (by omega) (by rw [hz2]; omega) (by omega)
  rw [hz1, Int.toNat_natCast, made_lines] at this
  exact this
/-- 'copy(own, l)' where own was made two longer. -/
theorem run_copyLn (W : World) (g n c : Nat) (x : Option Addr) (ls : List LineV) (hn : ls.length = n) (hg : RowLn W g (List.replicate (n + 2) zLn)) (hl : Lns W x ls) :
    ∃ W', (∀ ty : TypeId, (Builtin.copy_ #[27, 27] ty #[.slice (some ⟨g, 0, none⟩) (n + 2) (n + 2), .slice x n c]).run Tryd.prog W = .ok (goInt n) W') ∧ But g W W' ∧ RowLn W' g (ls ++ [zLn, zLn]) := by
  obtain ⟨i0, hi, hz0, hz1, hz2⟩ := info_parts infoLine
  subst hn
  by_cases h0 : ls.length = 0
  · have he : ls = [] := List.eq_nil_of_length_eq_zero h0
    subst he
    refine ⟨W, fun ty => ?_, But.refl _ _, hg⟩
    cases x with
    | none => simp [Builtin.copy_, run_underlying Tryd.underlying27, Builtin.lenOf, Builtin.firstCells, sizeOf, typeInfo, hi, storeCells, goInt]
    | some a =>
      have h0 := run_loadCells_list (P := Tryd.prog) W a [] (fun j v h => by simp at h)
      simp at h0
      simp [Builtin.copy_, run_underlying Tryd.underlying27, Builtin.lenOf, Builtin.firstCells, sizeOf, typeInfo, hi, h0, storeCells, goInt]
  · obtain ⟨b, off, hx, _, _⟩ := hl 0 (by omega)
    subst hx
    have hfl := flatL_len ls
    have hlen2 := flatL_len (List.replicate (ls.length + 2) zLn)
    rw [List.length_replicate] at hlen2
    have hsrc : ∀ j v, (flatL ls)[j]? = some v → W.cell? ((⟨b, off, none⟩ : Addr).add j) = some v := by
      intro j v hj
      rw [add_at3]
      have hjl : j < ls.length * 3 := by have := (List.getElem?_eq_some_iff.1 hj).1; omega
      obtain ⟨q, r, hr, rfl⟩ : ∃ q r, r < 3 ∧ j = q * 3 + r := ⟨j / 3, j % 3, Nat.mod_lt _ (by decide), by omega⟩
      have hq : q < ls.length := by omega
      obtain ⟨b', off', e, _, a0, a1, a2⟩ := hl q hq
      obtain ⟨rfl, rfl⟩ : b = b' ∧ off = off' := by simpa using e
      rw [flatL_at ls q hq r hr] at hj
      have h3 : r = 0 ∨ r = 1 ∨ r = 2 := by omega
      rcases h3 with rfl | rfl | rfl
      · rw [← Option.some.inj hj]; exact a0
      · rw [← Option.some.inj hj, ← Nat.add_assoc]; exact a1
      · rw [← Option.some.inj hj, ← Nat.add_assoc]; exact a2
    have hone : ∀ v ∈ flatL ls, v.oneCell' = true := by
      intro v hv
      unfold flatL at hv
      obtain ⟨l, _, hv⟩ := List.mem_flatMap.1 hv
      exact lCells_one l v hv
    have hr := fun ty : TypeId => run_copy_rowN (P := Tryd.prog) W 27 27 ty 35 g 0 (ls.length + 2) (ls.length + 2) ⟨b, off, none⟩ ls.length c ls.length _ _ (flatL ls) i0 Tryd.underlying27 hi hg (Nat.min_eq_left (by omega)) (by rw [hz1]; exact hfl) hsrc (by simp; omega) hone
    refine ⟨_, hr, ⟨rfl, rfl, rfl, by simp, fun k hk hne => setRow_other W g k _ hne⟩, ?_⟩
    unfold RowLn
    rw [setRow_heap W g _ _ _ _ hg]
    congr 2
    rw [List.take_zero, List.nil_append, Nat.zero_add, List.toList_toArray]
    have : flatL (List.replicate (ls.length + 2) zLn) = flatL (List.replicate ls.length zLn) ++ flatL [zLn, zLn] := by
      unfold flatL
      rw [← List.flatMap_append]
      congr 1
      rw [show ls.length + 2 = ls.length + 1 + 1 from rfl, List.replicate_succ', List.replicate_succ', List.append_assoc]; rfl
    rw [this, List.drop_append, List.drop_eq_nil_of_le (by rw [flatL_len, List.length_replicate]; omega), flatL_len (List.replicate ls.length zLn), List.length_replicate, hfl, Nat.sub_self, List.drop_zero, List.nil_append]
    unfold flatL
    rw [List.flatMap_append]
end Go.Proofs.YtbpbiakdigjcnaaDoor
