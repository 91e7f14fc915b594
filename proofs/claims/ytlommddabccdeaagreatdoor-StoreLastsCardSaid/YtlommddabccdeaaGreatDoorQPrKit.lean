/-
  Marks, RowOps, PrKit.
-/
import Derived.Maps.AppendAt
import Derived.Laws.OwnMore
import Derived.Laws.Rows
import Derived.Below
import Derived.RegionTactic
import Derived.Laws.CopyOwn
import Derived.Laws.Append
import Derived.Laws.AppendOwn
import Derived.Deep.RegionLaw
import Derived.Test.YtlommddabccdeaaGreatDoorQStpMath
import Derived.Deep.AppendLies
import Derived.Deep.AppendSrc
import Derived.IntWalk
namespace Go.Proofs.YtlommddabccdeaaGreatDoor
open Go.RowKit

theorem below_one (w : World) (o : Obj) : Below w.heap.size w (w.alloc o) := (Below.refl _ w).alloc (Nat.le_refl _) o
section
variable {w w' : World} {e : TypeId} {sz : Nat} {mk : Nat → List Value} {col : Nat → Nat} {i : Nat} {v : Value} {k : Nat}

end

end Go.Proofs.YtlommddabccdeaaGreatDoor

namespace Go.Proofs.YtlommddabccdeaaGreatDoor
open Go.RowKit

theorem wpList_append_eq {P : Program} {w w' : World} {ops : Array Oper} {rest : List Oper} {o : Oper} {a : Act} {Q : Exit → Act → World → Prop} (hgd : o.guard = none) (s x : Operand) (t t2 : TypeId)
  (ho : o.op = .call { callee := .builtin .append, args := #[s, x], argTypes := #[t, t2] }) (v u v' : Value) (hs : a.eval s = v) (hx : a.eval x = u)
  (hr : (Builtin.append_ #[t, t2] o.type #[v, u]).run P w = .ok v' w') (h : wpList P ops Q rest (a.put o.dst v') w') : wpList P ops Q (o :: rest) a w :=
 wpList_plain hgd fun _ hK => by
  unfold Oper.wp execOp
  simp only [ho, resolve, invoke, builtin, Sem.run_bind, Sem.run_pure, Result.andThen_ok, List.map_toArray, List.map_cons, List.map_nil, hs, hx, hr]
  exact hK _ _ h
end Go.Proofs.YtlommddabccdeaaGreatDoor

namespace Go.Proofs.YtlommddabccdeaaGreatDoor
open Go.ChangeShapes Go.WideShapes Go.ChangeAt Go.RowKit

def pCells (p : PairV) : List Value := [.string p.table, .string p.key, .string p.value]
def pFlat (ps : List PairV) : List Value := ps.flatMap pCells
theorem pFlat_len (ps : List PairV) : (pFlat ps).length = ps.length * 3 := by
 unfold pFlat
 induction ps with
 | nil => rfl
 | cons g r ih => rw [List.flatMap_cons, List.length_append, ih]; simp [pCells]; omega
theorem pFlat_append (a b : List PairV) : pFlat (a ++ b) = pFlat a ++ pFlat b := by unfold pFlat; rw [List.flatMap_append]
theorem pFlat_one' (p : PairV) : pFlat [p] = pCells p := by unfold pFlat; simp
theorem pCells_one (p : PairV) : ∀ v ∈ pCells p, v.oneCell' = true := by
 intro u hu
 unfold pCells at hu
 simp only [List.mem_cons, List.not_mem_nil, or_false] at hu
 rcases hu with rfl | rfl | rfl <;> rfl
theorem pFlat_one (ps : List PairV) : ∀ v ∈ pFlat ps, v.oneCell' = true := by
 intro v hv
 unfold pFlat at hv
 obtain ⟨p, _, hp⟩ := List.mem_flatMap.1 hv
 exact pCells_one p v hp
theorem pFlat_at (ls : List PairV) : ∀ k (h : k < ls.length) j, j < 3 → (pFlat ls)[k * 3 + j]? = (pCells ls[k])[j]? := by
 unfold pFlat
 induction ls with
 | nil => intro k h; cases h
 | cons l r ih =>
  intro k h j hj
  rw [List.flatMap_cons]
  cases k with
  | zero => rw [List.getElem?_append_left (by simp [pCells]; omega)]; simp
  | succ k =>
   rw [List.getElem?_append_right (by simp [pCells]; omega)]
   have : (k + 1) * 3 + j - (pCells l).length = k * 3 + j := by simp [pCells]; omega
   rw [this, ih k (by simpa using h) j hj]; simp
theorem addr_at (g o j : Nat) : (⟨g, o, none⟩ : Addr).add j = ⟨g, o + j, none⟩ := by unfold Addr.add; split <;> simp_all
def PrsAt (w : World) (x : Option Addr) (ps : List PairV) : Prop :=
 ∀ k (h : k < ps.length), ∃ b off, x = some ⟨b, off, none⟩ ∧ b < w.heap.size ∧ w.cell? ⟨b, off + k * 3, none⟩ = some (.string ps[k].table) ∧ w.cell? ⟨b, off + k * 3 + 1, none⟩ = some (.string ps[k].key) ∧ w.cell? ⟨b, off + k * 3 + 2, none⟩ = some (.string ps[k].value)
section
variable {w w' : World} {x : Option Addr} {ps qs : List PairV}
theorem PrsAt.below (h : PrsAt w x ps) (hb : Below w.heap.size w w') : PrsAt w' x ps := fun k hk => by
 obtain ⟨b, off, e, hl, c0, c1, c2⟩ := h k hk
 exact ⟨b, off, e, Nat.lt_of_lt_of_le hl hb.size, by rw [hb.cell (p := ⟨b, off + k * 3, none⟩) hl]; exact c0, by rw [hb.cell (p := ⟨b, off + k * 3 + 1, none⟩) hl]; exact c1, by rw [hb.cell (p := ⟨b, off + k * 3 + 2, none⟩) hl]; exact c2⟩
theorem PrsAt.nil_ (w : World) (x : Option Addr) : PrsAt w x [] := fun k h => absurd h (by simp)
theorem PrsAt.of_cells {g off : Nat} (hg : g < w.heap.size) (h : ∀ j u, (pFlat ps)[j]? = some u → w.cell? ⟨g, off + j, none⟩ = some u) : PrsAt w (some ⟨g, off, none⟩) ps := fun k hk => by
 have h0 := h (k * 3 + 0) _ (pFlat_at ps k hk 0 (by decide))
 have h1 := h (k * 3 + 1) _ (pFlat_at ps k hk 1 (by decide))
 have h2 := h (k * 3 + 2) _ (pFlat_at ps k hk 2 (by decide))
 refine ⟨g, off, rfl, hg, ?_, ?_, ?_⟩
 ·simpa using h0
 ·rw [Nat.add_assoc]; exact h1
 ·rw [Nat.add_assoc]; exact h2
theorem PrsAt.cells {g off : Nat} (h : PrsAt w (some ⟨g, off, none⟩) ps) : ∀ j u, (pFlat ps)[j]? = some u → w.cell? ⟨g, off + j, none⟩ = some u := by
 intro j u hj
 have hl : j < ps.length * 3 := by rw [← pFlat_len]; exact (List.getElem?_eq_some_iff.1 hj).1
 have hk : j / 3 < ps.length := by omega
 obtain ⟨b, o, e, _, c0, c1, c2⟩ := h (j / 3) hk
 obtain ⟨rfl, rfl⟩ : g = b ∧ off = o := by simpa using e
 have hm : j % 3 = 0 ∨ j % 3 = 1 ∨ j % 3 = 2 := by omega
 have ha := pFlat_at ps (j / 3) hk (j % 3) (by omega)
 rw [show j / 3 * 3 + j % 3 = j by omega, hj] at ha
 rcases hm with hm | hm | hm
 ·rw [hm] at ha
  rw [show off + j = off + j / 3 * 3 by omega, c0]; exact ha.symm
 ·rw [hm] at ha
  rw [show off + j = off + j / 3 * 3 + 1 by omega, c1]; exact ha.symm
 ·rw [hm] at ha
  rw [show off + j = off + j / 3 * 3 + 2 by omega, c2]; exact ha.symm
theorem PrsAt.of_own {B n : Nat} {v : Value} (h : w.ownsRow B 42 3 v n (pFlat ps)) (hn : ps.length = n) : ∃ x c, v = .slice x n c ∧ PrsAt w x ps := by
 rcases h.2 with ⟨h1, h2⟩ | ⟨g, cap, cur, h1, _, hg, _⟩
 ·refine ⟨none, 0, by rw [h1, h2], ?_⟩
  have : ps = [] := List.eq_nil_of_length_eq_zero (by omega)
  rw [this]; exact PrsAt.nil_ _ _
 ·refine ⟨_, _, h1, PrsAt.of_cells ?_ ?_⟩
  ·exact (Array.getElem?_eq_some_iff.1 hg).1
  ·intro j u hj
   have := World.ownsRow.cells h (g := g) (by rw [h1]; rfl) j u hj
   rw [addr_at] at this
   exact this
theorem PrsAt.take (h : PrsAt w x ps) (n : Nat) : PrsAt w x (ps.take n) := fun k hk => by
 have hk' : k < ps.length := by rw [List.length_take] at hk; omega
 obtain ⟨b, off, e, hl, c0, c1, c2⟩ := h k hk'
 exact ⟨b, off, e, hl, by rw [List.getElem_take]; exact c0, by rw [List.getElem_take]; exact c1, by rw [List.getElem_take]; exact c2⟩
theorem PrsAt.left (h : PrsAt w x (ps ++ qs)) : PrsAt w x ps := by
 have := h.take ps.length
 rwa [List.take_left] at this
theorem PrsAt.drop {b off : Nat} (h : PrsAt w (some ⟨b, off, none⟩) ps) (i : Nat) : PrsAt w (some ⟨b, off + i * 3, none⟩) (ps.drop i) := fun k hk => by
 have hk' : i + k < ps.length := by rw [List.length_drop] at hk; omega
 obtain ⟨b', off', e, hl, c0, c1, c2⟩ := h (i + k) hk'
 obtain ⟨rfl, rfl⟩ : b = b' ∧ off = off' := by simpa using e
 refine ⟨b, off + i * 3, rfl, hl, ?_, ?_, ?_⟩
 ·rw [List.getElem_drop, show off + i * 3 + k * 3 = off + (i + k) * 3 by omega]; exact c0
 ·rw [List.getElem_drop, show off + i * 3 + k * 3 + 1 = off + (i + k) * 3 + 1 by omega]; exact c1
 ·rw [List.getElem_drop, show off + i * 3 + k * 3 + 2 = off + (i + k) * 3 + 2 by omega]; exact c2
end
structure OwnP (w0 w : World) (v : Value) (ps : List PairV) : Prop where
 own : w.ownsRow w0.heap.size 42 3 v ps.length (pFlat ps)
 below : Below w0.heap.size w0 w
section
variable {w0 w w' : World} {v : Value} {ps qs : List PairV}
theorem OwnP.nil_ (w : World) : OwnP w w (.slice none 0 0) [] := ⟨World.ownsRow_nil _ _ _ _, Below.refl _ _⟩
theorem OwnP.after (h : OwnP w0 w v ps) (hb : Below w.heap.size w w') : OwnP w0 w' v ps :=
 ⟨h.own.kept (row := none) ⟨hb.os, hb.tape, hb.output, hb.size, fun k hk _ => hb.block k hk⟩ (by cases hv : v.ownBlock <;> simp), h.below.trans (hb.mono h.below.size)⟩
theorem OwnP.prs (h : OwnP w0 w v ps) : ∃ x c, v = .slice x ps.length c ∧ PrsAt w x ps := PrsAt.of_own h.own rfl
theorem OwnP.lift {w1 : World} (h : OwnP w1 w v ps) (hb : Below w0.heap.size w0 w1) : OwnP w0 w v ps := by
 refine ⟨?_, hb.trans (h.below.mono hb.size)⟩
 have hz := hb.size
 obtain ⟨h1, h2⟩ := h.own
 refine ⟨h1, ?_⟩
 rcases h2 with ⟨a, b⟩ | ⟨g, cap, cur, e1, e2, e3⟩
 ·exact .inl ⟨a, b⟩
 ·exact .inr ⟨g, cap, cur, e1, Nat.le_trans hz e2, e3⟩
end
theorem infoPr : (Tryz.prog.info? 42).map (fun i => (i.zero, i.size, i.bytes)) = some (some (.agg #[.string ByteArray.empty, .string ByteArray.empty, .string ByteArray.empty]), 3, 48) := by kernel_rfl
theorem appendP {ops : Array Oper} {rest : List Oper} {o : Oper} {a : Act} {Q : Exit → Act → World → Prop} (hgd : o.guard = none) (s x : Operand)
  (ho : o.op = .call { callee := .builtin .append, args := #[s, x], argTypes := #[35, 35] }) {w0 w : World} {v : Value} {t k u : ByteArray} {ps : List PairV} (hown : OwnP w0 w v ps) (hn : ps.length ≤ 10000000000) (hs : a.eval s = v)
  {c g : Nat} (hx : a.eval x = .slice (some ⟨g, 0, none⟩) 1 c) (hg : g = w.heap.size)
  (h : ∀ y cap w', OwnP w0 w' (.slice (some ⟨y, 0, none⟩) (ps.length + 1) cap) (ps ++ [⟨t, k, u⟩]) → (w.alloc (Obj.cells #[.string t, .string k, .string u] 42)).grownBy w' v.ownBlock → wpList Tryz.prog ops Q rest (a.put o.dst (.slice (some ⟨y, 0, none⟩) (ps.length + 1) cap)) w') :
  wpList Tryz.prog ops Q (o :: rest) a (w.alloc (Obj.cells #[.string t, .string k, .string u] 42)) := by
 subst hg
 obtain ⟨i0, hi, hz0, hz1, hz2⟩ := info_parts infoPr
 have hz := hown.below.size
 refine wpList_append_lies _ hgd s x _ ho w0.heap.size 42 i0 _ 3 48 Tryz.underlying35 hi hz0 hz1 hz2 rfl (by decide) v ps.length (pFlat ps) hs (hown.own.alloc _) ⟨w.heap.size, 0, none⟩ 1 c (pCells ⟨t, k, u⟩) hx rfl (World.news_of_block (heap_alloc_new w _)) (pCells_one _) (by decide) (by unfold maxLen; omega) (by omega) (by have := (below_one w (Obj.cells #[.string t, .string k, .string u] 42)).size; omega) _ rfl ?_
 intro y cap w1 h1 h2 _ _
 refine h y cap w1 ⟨?_, (hown.below.alloc hz _).grown h2 (by simp; omega) (fun k hk => (hown.own.lt k hk).1)⟩ h2
 rw [List.length_append, List.length_singleton, pFlat_append, pFlat_one']
 exact h1
theorem elemPr : Tryz.prog.underlying 35 = some (.slice (Tryz.prog.elem 35)) := by kernel_rfl
theorem sizePr (w : World) : (sizeOf (Tryz.prog.elem 35)).run Tryz.prog w = .ok 3 w := by kernel_rfl
theorem slice_rest {w : World} {x : Option Addr} {ps : List PairV} {n c i : Nat} (h : PrsAt w x ps) (hn : ps.length = n) (hi : i ≤ n) (hc : n ≤ c) : ∃ x' c', (∀ W : World, (Instr.slice 35 (.slice x n c) (some (.int .i64 (i : Int))) none none).run Tryz.prog W = .ok (.slice x' (n - i) c') W) ∧ PrsAt w x' (ps.drop i) ∧ n - i ≤ c' := by
 refine ⟨(if c = i then x else x.map (·.add (i * 3))), c - i, fun W => ?_, ?_, by omega⟩
 ·rw [run_slice_l W _ _ _ _ elemPr .i64 (i : Int) (by omega) (by omega), sizePr]
  show Result.ok (sliced _ _ _ _ _) W = _
  unfold sliced
  rw [Int.toNat_natCast]
 ·by_cases he : i = n
  ·rw [List.drop_eq_nil_of_le (by omega)]; exact PrsAt.nil_ _ _
  ·rw [if_neg (by omega)]
   obtain ⟨b, off, e, _⟩ := h 0 (by omega)
   subst e
   rw [Option.map_some, addr_at]
   exact h.drop i
end Go.Proofs.YtlommddabccdeaaGreatDoor
