/-
  RowOps, PrKit.
-/
import Derived.Laws.CopyOwn
import Derived.Laws.Append
import Derived.Laws.AppendOwn
import Derived.Deep.RegionLaw
import Derived.Below
import Derived.Test.YticcdighfojjjaaGreatDoorQStpMath
import Derived.Test.YticcdighfojjjaaGreatDoorQMarks
import Derived.Deep.AppendLies
import Derived.Deep.AppendSrc
import Derived.IntWalk
namespace Go.Proofs.YticcdighfojjjaaGreatDoor
open Go.RowKit

theorem wpList_append_eq {P : Program} {w w' : World} {ops : Array Oper} {rest : List Oper} {o : Oper} {a : Act} {Q : Exit → Act → World → Prop} (hgd : o.guard = none) (s x : Operand) (t t2 : TypeId)
    (ho : o.op = .call { callee := .builtin .append, args := #[s, x], argTypes := #[t, t2] }) (v u v' : Value) (hs : a.eval s = v) (hx : a.eval x = u)
    (hr : (Builtin.append_ #[t, t2] o.type #[v, u]).run P w = .ok v' w') (h : wpList P ops Q rest (a.put o.dst v') w') : wpList P ops Q (o :: rest) a w :=
  wpList_plain hgd fun _ hK => by
    unfold Oper.wp execOp
    simp only [ho, resolve, invoke, builtin, Sem.run_bind, Sem.run_pure, Result.andThen_ok, List.map_toArray, List.map_cons, List.map_nil, hs, hx, hr]
    exact hK _ _ h
theorem wpList_copy_eq {P : Program} {w w' : World} {ops : Array Oper} {rest : List Oper} {o : Oper} {a : Act} {Q : Exit → Act → World → Prop} (hgd : o.guard = none) (s x : Operand) (t t2 : TypeId)
    (ho : o.op = .call { callee := .builtin .copy, args := #[s, x], argTypes := #[t, t2] }) (v u v' : Value) (hs : a.eval s = v) (hx : a.eval x = u)
    (hr : (Builtin.copy_ #[t, t2] o.type #[v, u]).run P w = .ok v' w') (h : wpList P ops Q rest (a.put o.dst v') w') : wpList P ops Q (o :: rest) a w :=
  wpList_plain hgd fun _ hK => by
    unfold Oper.wp execOp
    simp only [ho, resolve, invoke, builtin, Sem.run_bind, Sem.run_pure, Result.andThen_ok, List.map_toArray, List.map_cons, List.map_nil, hs, hx, hr]
    exact hK _ _ h
/-- What a copy leaves, whatever the size of an element. -/
theorem run_copy_rowN {P : Program} (w : World) (dT sT ty elem : TypeId) (g o dLen dCap : Nat) (a : Addr) (sLen sCap n : Nat) (cur : Array Value) (t : TypeId) (cs : List Value) (i : TypeInfo)
    (hu : P.underlying dT = some (.slice elem)) (hi : P.info? elem = some i)
    (hg : w.heap[g]? = some (.cells cur t (0, 0))) (hm : Nat.min sLen dLen = n) (hn : cs.length = n * i.size)
    (hsrc : ∀ j v, cs[j]? = some v → w.cell? (a.add j) = some v) (hfit : o + cs.length ≤ cur.size) (h1 : ∀ v ∈ cs, v.oneCell' = true) :
    (Builtin.copy_ #[dT, sT] ty #[.slice (some ⟨g, o, none⟩) dLen dCap, .slice (some a) sLen sCap]).run P w =
      .ok (goInt n) (w.setRow g (cur.toList.take o ++ cs ++ cur.toList.drop (o + cs.length)).toArray) := by
  subst hm
  have hl := run_loadCells_list (P := P) w a cs hsrc
  have hst := run_storeCells_at P g o t cs 0 cur w hg (by simpa using hfit) h1
  simp [Builtin.copy_, run_underlying hu, Builtin.lenOf, Builtin.firstCells, sizeOf, typeInfo, hi, ← hn, hl, hst]
end Go.Proofs.YticcdighfojjjaaGreatDoor

namespace Go.Proofs.YticcdighfojjjaaGreatDoor
open Go.ChangeShapes Go.WideShapes Go.ChangeAt Go.RowKit

def pCells (p : PairV) : List Value := [.string p.table, .string p.key, .string p.value]
def pFlat (ps : List PairV) : List Value := ps.flatMap pCells
theorem pFlat_len (ps : List PairV) : (pFlat ps).length = ps.length * 3 := by
  unfold pFlat
  induction ps with
  | nil => rfl
  | cons g r ih => rw [List.flatMap_cons, List.length_append, ih]; simp [pCells]; omega
theorem pFlat_append (a b : List PairV) : pFlat (a ++ b) = pFlat a ++ pFlat b := by unfold pFlat; rw [List.flatMap_append]
theorem pFlat_one' (p : PairV) : pFlat [p] = pCells p := by unfold pFlat; simp
theorem pCells_one (p : PairV) : ∀ v ∈ pCells p, v.oneCell' = true := by
  intro u hu
  unfold pCells at hu
  simp only [List.mem_cons, List.not_mem_nil, or_false] at hu
  rcases hu with rfl | rfl | rfl <;> rfl
theorem pFlat_one (ps : List PairV) : ∀ v ∈ pFlat ps, v.oneCell' = true := by
  intro v hv
  unfold pFlat at hv
  obtain ⟨p, _, hp⟩ := List.mem_flatMap.1 hv
  exact pCells_one p v hp
theorem pFlat_at (ls : List PairV) : ∀ k (h : k < ls.length) j, j < 3 → (pFlat ls)[k * 3 + j]? = (pCells ls[k])[j]? := by
  unfold pFlat
  induction ls with
  | nil => intro k h; cases h
  | cons l r ih =>
    intro k h j hj
    rw [List.flatMap_cons]
    cases k with
    | zero => rw [List.getElem?_append_left (by simp [pCells]; omega)]; simp
    | succ k =>
      rw [List.getElem?_append_right (by simp [pCells]; omega)]
      have : (k + 1) * 3 + j - (pCells l).length = k * 3 + j := by simp [pCells]; omega
      rw [this, ih k (by simpa using h) j hj]; simp
theorem addr_at (g o j : Nat) : (⟨g, o, none⟩ : Addr).add j = ⟨g, o + j, none⟩ := by unfold Addr.add; split <;> simp_all
/-- A list of pairs in memory. -/
def PrsAt (w : World) (x : Option Addr) (ps : List PairV) : Prop :=
  ∀ k (h : k < ps.length), ∃ b off, x = some ⟨b, off, none⟩ ∧ b < w.heap.size ∧ w.cell? ⟨b, off + k * 3, none⟩ = some (.string ps[k].table) ∧ w.cell? ⟨b, off + k * 3 + 1, none⟩ = some (.string ps[k].key) ∧ w.cell? ⟨b, off + k * 3 + 2, none⟩ = some (.string ps[k].value)
section
variable {w w' : World} {x : Option Addr} {ps qs : List PairV}
theorem PrsAt.below (h : PrsAt w x ps) (hb : Below w.heap.size w w') : PrsAt w' x ps := fun k hk => by
  obtain ⟨b, off, e, hl, c0, c1, c2⟩ := h k hk
  exact ⟨b, off, e, Nat.lt_of_lt_of_le hl hb.size, by rw [hb.cell (p := ⟨b, off + k * 3, none⟩) hl]; exact c0, by rw [hb.cell (p := ⟨b, off + k * 3 + 1, none⟩) hl]; exact c1, by rw [hb.cell (p := ⟨b, off + k * 3 + 2, none⟩) hl]; exact c2⟩
theorem PrsAt.nil_ (w : World) (x : Option Addr) : PrsAt w x [] := fun k h => absurd h (by simp)
theorem PrsAt.of_cells {g off : Nat} (hg : g < w.heap.size) (h : ∀ j u, (pFlat ps)[j]? = some u → w.cell? ⟨g, off + j, none⟩ = some u) : PrsAt w (some ⟨g, off, none⟩) ps := fun k hk => by
  have h0 := h (k * 3 + 0) _ (pFlat_at ps k hk 0 (by decide))
  have h1 := h (k * 3 + 1) _ (pFlat_at ps k hk 1 (by decide))
  have h2 := h (k * 3 + 2) _ (pFlat_at ps k hk 2 (by decide))
  refine ⟨g, off, rfl, hg, ?_, ?_, ?_⟩
  · simpa using h0
  · rw [Nat.add_assoc]; exact h1
  · rw [Nat.add_assoc]; exact h2
theorem PrsAt.cells {g off : Nat} (h : PrsAt w (some ⟨g, off, none⟩) ps) : ∀ j u, (pFlat ps)[j]? = some u → w.cell? ⟨g, off + j, none⟩ = some u := by
  intro j u hj
  have hl : j < ps.length * 3 := by rw [← pFlat_len]; exact (List.getElem?_eq_some_iff.1 hj).1
  have hk : j / 3 < ps.length := by omega
  obtain ⟨b, o, e, _, c0, c1, c2⟩ := h (j / 3) hk
  obtain ⟨rfl, rfl⟩ : g = b ∧ off = o := by simpa using e
  have hm : j % 3 = 0 ∨ j % 3 = 1 ∨ j % 3 = 2 := by omega
  have ha := pFlat_at ps (j / 3) hk (j % 3) (by omega)
  rw [show j / 3 * 3 + j % 3 = j by omega, hj] at ha
  rcases hm with hm | hm | hm
  · rw [hm] at ha
    rw [show off + j = off + j / 3 * 3 by omega, c0]; exact ha.symm
  · rw [hm] at ha
    rw [show off + j = off + j / 3 * 3 + 1 by omega, c1]; exact ha.symm
  · rw [hm] at ha
    rw [show off + j = off + j / 3 * 3 + 2 by omega, c2]; exact ha.symm
theorem PrsAt.of_own {B n : Nat} {v : Value} (h : w.ownsRow B 51 3 v n (pFlat ps)) (hn : ps.length = n) : ∃ x c, v = .slice x n c ∧ PrsAt w x ps := by
  rcases h.2 with ⟨h1, h2⟩ | ⟨g, cap, cur, h1, _, hg, _⟩
  · refine ⟨none, 0, by rw [h1, h2], ?_⟩
    have : ps = [] := List.eq_nil_of_length_eq_zero (by omega)
    rw [this]; exact PrsAt.nil_ _ _
  · refine ⟨_, _, h1, PrsAt.of_cells ?_ ?_⟩
    · exact (Array.getElem?_eq_some_iff.1 hg).1
    · intro j u hj
      have := World.ownsRow.cells h (g := g) (by rw [h1]; rfl) j u hj
      rw [addr_at] at this
      exact this
theorem PrsAt.take (h : PrsAt w x ps) (n : Nat) : PrsAt w x (ps.take n) := fun k hk => by
  have hk' : k < ps.length := by rw [List.length_take] at hk; omega
  obtain ⟨b, off, e, hl, c0, c1, c2⟩ := h k hk'
  exact ⟨b, off, e, hl, by rw [List.getElem_take]; exact c0, by rw [List.getElem_take]; exact c1, by rw [List.getElem_take]; exact c2⟩
theorem PrsAt.left (h : PrsAt w x (ps ++ qs)) : PrsAt w x ps := by
  have := h.take ps.length
  rwa [List.take_left] at this
theorem PrsAt.drop {b off : Nat} (h : PrsAt w (some ⟨b, off, none⟩) ps) (i : Nat) : PrsAt w (some ⟨b, off + i * 3, none⟩) (ps.drop i) := fun k hk => by
  have hk' : i + k < ps.length := by rw [List.length_drop] at hk; omega
  obtain ⟨b', off', e, hl, c0, c1, c2⟩ := h (i + k) hk'
  obtain ⟨rfl, rfl⟩ : b = b' ∧ off = off' := by simpa using e
  refine ⟨b, off + i * 3, rfl, hl, ?_, ?_, ?_⟩
  · rw [List.getElem_drop, show off + i * 3 + k * 3 = off + (i + k) * 3 by omega]; exact c0
  · rw [List.getElem_drop, show off + i * 3 + k * 3 + 1 = off + (i + k) * 3 + 1 by omega]; exact c1
  · rw [List.getElem_drop, show off + i * 3 + k * 3 + 2 = off + (i + k) * 3 + 2 by omega]; exact c2
end
/-- A list of pairs of a call's own. -/
structure OwnP (w0 w : World) (v : Value) (ps : List PairV) : Prop where
  own : w.ownsRow w0.heap.size 51 3 v ps.length (pFlat ps)
  below : Below w0.heap.size w0 w
section
variable {w0 w w' : World} {v : Value} {ps qs : List PairV}
theorem OwnP.nil_ (w : World) : OwnP w w (.slice none 0 0) [] := ⟨World.ownsRow_nil _ _ _ _, Below.refl _ _⟩
theorem OwnP.after (h : OwnP w0 w v ps) (hb : Below w.heap.size w w') : OwnP w0 w' v ps :=
  ⟨h.own.kept (row := none) ⟨hb.os, hb.tape, hb.output, hb.size, fun k hk _ => hb.block k hk⟩ (by cases hv : v.ownBlock <;> simp), h.below.trans (hb.mono h.below.size)⟩
theorem OwnP.prs (h : OwnP w0 w v ps) : ∃ x c, v = .slice x ps.length c ∧ PrsAt w x ps := PrsAt.of_own h.own rfl
theorem OwnP.lift {w1 : World} (h : OwnP w1 w v ps) (hb : Below w0.heap.size w0 w1) : OwnP w0 w v ps := by
  refine ⟨?_, hb.trans (h.below.mono hb.size)⟩
  have hz := hb.size
  obtain ⟨h1, h2⟩ := h.own
  refine ⟨h1, ?_⟩
  rcases h2 with ⟨a, b⟩ | ⟨g, cap, cur, e1, e2, e3⟩
  · exact .inl ⟨a, b⟩
  · exact .inr ⟨g, cap, cur, e1, Nat.le_trans hz e2, e3⟩
end
theorem infoPr : (Tryz.prog.info? 51).map (fun i => (i.zero, i.size, i.bytes)) = some (some (.agg #[.string ByteArray.empty, .string ByteArray.empty, .string ByteArray.empty]), 3, 48) := by kernel_rfl
/-- One more. -/
theorem appendP {ops : Array Oper} {rest : List Oper} {o : Oper} {a : Act} {Q : Exit → Act → World → Prop} (hgd : o.guard = none) (s x : Operand)
    (ho : o.op = .call { callee := .builtin .append, args := #[s, x], argTypes := #[37, 37] }) {w0 w : World} {v : Value} {t k u : ByteArray} {ps : List PairV} (hown : OwnP w0 w v ps) (hn : ps.length ≤ 10000000000) (hs : a.eval s = v)
    {c g : Nat} (hx : a.eval x = .slice (some ⟨g, 0, none⟩) 1 c) (hg : g = w.heap.size)
    (h : ∀ y cap w', OwnP w0 w' (.slice (some ⟨y, 0, none⟩) (ps.length + 1) cap) (ps ++ [⟨t, k, u⟩]) → (w.alloc (Obj.cells #[.string t, .string k, .string u] 51)).grownBy w' v.ownBlock → wpList Tryz.prog ops Q rest (a.put o.dst (.slice (some ⟨y, 0, none⟩) (ps.length + 1) cap)) w') :
    wpList Tryz.prog ops Q (o :: rest) a (w.alloc (Obj.cells #[.string t, .string k, .string u] 51)) := by
  subst hg
  obtain ⟨i0, hi, hz0, hz1, hz2⟩ := info_parts infoPr
  have hz := hown.below.size
  refine wpList_append_lies _ hgd s x _ ho w0.heap.size 51 i0 _ 3 48 Tryz.underlying37 hi hz0 hz1 hz2 rfl (by decide) v ps.length (pFlat ps) hs (hown.own.alloc _) ⟨w.heap.size, 0, none⟩ 1 c (pCells ⟨t, k, u⟩) hx rfl (World.news_of_block (heap_alloc_new w _)) (pCells_one _) (by decide) (by unfold maxLen; omega) (by omega) (by have := (below_one w (Obj.cells #[.string t, .string k, .string u] 51)).size; omega) _ rfl ?_
  intro y cap w1 h1 h2 _ _
  refine h y cap w1 ⟨?_, (hown.below.alloc hz _).grown h2 (by simp; omega) (fun k hk => (hown.own.lt k hk).1)⟩ h2
  rw [List.length_append, List.length_singleton, pFlat_append, pFlat_one']
  exact h1
/-- A list that stands anywhere goes to a list that is not empty. -/
theorem append_rest {w0 w : World} {v u : Value} {ps qs : List PairV} (hown : OwnP w0 w v ps) (h0 : 0 < ps.length) (hn : ps.length ≤ 10000000000) {x : Option Addr} {m c : Nat} (hm : qs.length = m) (hm2 : m ≤ 10000000000) (hu : u = .slice x m c) (hq : PrsAt w x qs) (ty : TypeId) :
    ∃ y cap w', (Builtin.append_ #[37, 37] ty #[v, u]).run Tryz.prog w = .ok (.slice (some ⟨y, 0, none⟩) (ps.length + m) cap) w' ∧ OwnP w0 w' (.slice (some ⟨y, 0, none⟩) (ps.length + m) cap) (ps ++ qs) ∧ w.grownBy w' v.ownBlock := by
  subst hu hm
  obtain ⟨i0, hi, hz0, hz1, hz2⟩ := info_parts infoPr
  have hz := hown.below.size
  by_cases hm0 : qs.length = 0
  · have hq0 : qs = [] := List.eq_nil_of_length_eq_zero hm0
    subst hq0
    obtain ⟨g, cap, e, hB, hg⟩ := World.ownsRow.form hown.own h0
    subst e
    have hsrc : Src Tryz.prog i0.size 37 (.slice x 0 c) 0 [] w := by
      cases x with
      | none => exact Src.ofNil w Tryz.underlying37 c
      | some ad => exact Src.ofSlice w Tryz.underlying37 ad 0 c [] (by simp) (fun j u h => by simp at h) (fun u h => by cases h)
    have hcap : ps.length ≤ cap := by
      have := hown.own
      rcases this.2 with ⟨h1, h2⟩ | ⟨g', cap', cur', h1, _, _, h4, h5, _⟩
      · cases h1
      · injection h1 with _ _ e3
        omega
    have hr := run_append_room_src w 37 37 ty 51 i0 Tryz.underlying37 hi g 0 ps.length cap (.slice x 0 c) 0 [] hsrc (by omega) (fun j h => by simp at h) (fun j h => by simp at h)
    refine ⟨g, cap, w, by simpa [World.setCells] using hr, by simpa using hown, World.grownBy.refl _ _⟩
  · obtain ⟨b, off, e, _⟩ := hq 0 (by omega)
    subst e
    obtain ⟨y, cap, w1, hr, h1, h2, _⟩ := run_append_lies w 37 ty w0.heap.size 51 i0 _ 3 48 Tryz.underlying37 hi hz0 hz1 hz2 rfl (by decide) v ps.length (pFlat ps) hown.own ⟨b, off, none⟩ qs.length c (pFlat qs) (pFlat_len qs) (fun j u hj => by rw [addr_at]; exact hq.cells j u hj) (pFlat_one qs) (by omega) (by unfold maxLen; omega) (by omega) hz _ rfl
    refine ⟨y, cap, w1, hr, ⟨?_, hown.below.grown h2 hz (fun k hk => (hown.own.lt k hk).1)⟩, h2⟩
    rw [List.length_append, pFlat_append]
    exact h1
theorem elemPr : Tryz.prog.underlying 37 = some (.slice (Tryz.prog.elem 37)) := by kernel_rfl
theorem sizePr (w : World) : (sizeOf (Tryz.prog.elem 37)).run Tryz.prog w = .ok 3 w := by kernel_rfl
/-- A list without its first pairs. -/
theorem slice_rest {w : World} {x : Option Addr} {ps : List PairV} {n c i : Nat} (h : PrsAt w x ps) (hn : ps.length = n) (hi : i ≤ n) (hc : n ≤ c) : ∃ x' c', (∀ W : World, (Instr.slice 37 (.slice x n c) (some (.int .i64 (i : Int))) none none).run Tryz.prog W = .ok (.slice x' (n - i) c') W) ∧ PrsAt w x' (ps.drop i) ∧ n - i ≤ c' := by
  refine ⟨(if c = i then x else x.map (·.add (i * 3))), c - i, fun W => ?_, ?_, by omega⟩
  · rw [run_slice_l W _ _ _ _ elemPr .i64 (i : Int) (by omega) (by omega), sizePr]
    show Result.ok (sliced _ _ _ _ _) W = _
    unfold sliced
    rw [Int.toNat_natCast]
  · by_cases he : i = n
    · rw [List.drop_eq_nil_of_le (by omega)]; exact PrsAt.nil_ _ _
    · rw [if_neg (by omega)]
      obtain ⟨b, off, e, _⟩ := h 0 (by omega)
      subst e
      rw [Option.map_some, addr_at]
      exact h.drop i
end Go.Proofs.YticcdighfojjjaaGreatDoor
