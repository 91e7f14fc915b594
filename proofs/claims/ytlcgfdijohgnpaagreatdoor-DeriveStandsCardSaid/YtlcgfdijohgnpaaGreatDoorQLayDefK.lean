/-
  LayDefK.
-/
import Derived.Test.YtlcgfdijohgnpaaGreatDoorQLayPutK
import Derived.Test.YtlcgfdijohgnpaaGreatDoorQValueWords
namespace Go.Proofs.YtlcgfdijohgnpaaGreatDoor
open Go.ChangeShapes Go.WideShapes Go.ChangeAt Go.RowKit

def dCells (k : KeyV) : List Value := [.string k.name, .int .i64 k.kind, .int .i64 k.least, .int .i64 k.most]
def dFlat (ks : List KeyV) : List Value := ks.flatMap dCells
theorem dFlat_len (ks : List KeyV) : (dFlat ks).length = ks.length * 4 := by
 unfold dFlat
 induction ks with
 | nil => rfl
 | cons m r ih => rw [List.flatMap_cons, List.length_append, ih]; simp [dCells]; omega
theorem dFlat_snoc (a : List KeyV) (m : KeyV) : dFlat (a ++ [m]) = dFlat a ++ dCells m := by unfold dFlat; rw [List.flatMap_append]; simp
theorem hFlat_snoc (a : List SetM) (m : SetM) : hFlat (a ++ [m]) = hFlat a ++ hCells m := by unfold hFlat; rw [List.flatMap_append]; simp
theorem dFlat_at (l : List KeyV) : ∀ k (h : k < l.length) j, j < 4 → (dFlat l)[k * 4 + j]? = (dCells l[k])[j]? := by
 induction l with
 | nil => intro k h; simp at h
 | cons m r ih =>
  intro k h j hj
  unfold dFlat
  rw [List.flatMap_cons]
  cases k with
  | zero =>
   rw [Nat.zero_mul, Nat.zero_add, List.getElem?_append_left (by simp [dCells]; omega)]
   rfl
  | succ k =>
   rw [List.getElem?_append_right (by simp [dCells]; omega)]
   have := ih k (by simpa using h) j hj
   simp only [List.getElem_cons_succ]
   rw [← this]
   unfold dFlat
   congr 1
   simp [dCells]
   omega
theorem dCells_one (k : KeyV) : ∀ v ∈ dCells k, v.oneCell' = true := by
 intro v hv
 unfold dCells at hv
 simp only [List.mem_cons, List.not_mem_nil, or_false] at hv
 rcases hv with rfl | rfl | rfl | rfl <;> rfl
theorem hCells_one (m : SetM) : ∀ v ∈ hCells m, v.oneCell' = true := by
 intro v hv
 unfold hCells at hv
 simp only [List.mem_cons, List.not_mem_nil, or_false] at hv
 rcases hv with rfl | rfl | rfl | rfl | rfl <;> rfl
theorem infoDef : (Tryz.prog.info? 111).map (fun i => (i.zero, i.size, i.bytes)) = some (some (.agg #[.string ByteArray.empty, .int .i64 0, .int .i64 0, .int .i64 0]), 4, 40) := by kernel_rfl
theorem stepD {ops : Array Oper} {o : Oper} {a : Act} {W : World} {K : Act → World → Prop} {Q : Exit → Act → World → Prop} {E : Prop} (hgd : o.guard = none) (sl x : Operand)
  (ho : o.op = .call { callee := .builtin .append, args := #[sl, x], argTypes := #[57, 57] }) {B n : Nat} {v : Value} {ks : List KeyV} (hown : W.ownsRow B 111 4 v n (dFlat ks)) (hB : B ≤ W.heap.size) (hn : n ≤ 10000000000) (k : KeyV) (hs : a.eval sl = v)
  {g c : Nat} (hx : a.eval x = .slice (some ⟨g, 0, none⟩) 1 c) (hk : ∀ j u, (dCells k)[j]? = some u → W.cell? ⟨g, j, none⟩ = some u)
  (h : ∀ y cap W2, W2.ownsRow B 111 4 (.slice (some ⟨y, 0, none⟩) (n + 1) cap) (n + 1) (dFlat ks ++ dCells k) → W.grownBy W2 v.ownBlock → (v.ownBlock = some y ∨ W.heap.size ≤ y) → K (a.put o.dst (.slice (some ⟨y, 0, none⟩) (n + 1) cap)) W2) :
  if Region.wanted o (yielded ops a.tmps) = true then Oper.wp Tryz.prog o a W K Q else E := by
 obtain ⟨i0, hi, hz0, hz1, hz2⟩ := info_parts infoDef
 refine step_append_lies _ hgd sl x _ ho B 111 i0 _ 4 40 Tryz.underlying57 hi hz0 hz1 hz2 rfl (by decide) v n (dFlat ks) hs hown ⟨g, 0, none⟩ 1 c (dCells k) hx rfl (fun j u hu => by rw [add_zero_at]; exact hk j u hu) (dCells_one k) (by decide) (by unfold maxLen; omega) (by omega) hB _ rfl ?_
 intro y cap W2 h1 h2 h3 _
 exact h y cap W2 h1 h2 (h3.imp id fun h3 => by rw [h3]; exact Nat.le_refl _)
theorem stepH {ops : Array Oper} {o : Oper} {a : Act} {W : World} {K : Act → World → Prop} {Q : Exit → Act → World → Prop} {E : Prop} (hgd : o.guard = none) (sl x : Operand)
  (ho : o.op = .call { callee := .builtin .append, args := #[sl, x], argTypes := #[58, 58] }) {B n : Nat} {v : Value} {ms : List SetM} (hown : W.ownsRow B 107 5 v n (hFlat ms)) (hB : B ≤ W.heap.size) (hn : n ≤ 10000000000) (m : SetM) (hs : a.eval sl = v)
  {g c : Nat} (hx : a.eval x = .slice (some ⟨g, 0, none⟩) 1 c) (hk : ∀ j u, (hCells m)[j]? = some u → W.cell? ⟨g, j, none⟩ = some u)
  (h : ∀ y cap W2, W2.ownsRow B 107 5 (.slice (some ⟨y, 0, none⟩) (n + 1) cap) (n + 1) (hFlat ms ++ hCells m) → W.grownBy W2 v.ownBlock → (v.ownBlock = some y ∨ W.heap.size ≤ y) → K (a.put o.dst (.slice (some ⟨y, 0, none⟩) (n + 1) cap)) W2) :
  if Region.wanted o (yielded ops a.tmps) = true then Oper.wp Tryz.prog o a W K Q else E := by
 obtain ⟨i0, hi, hz0, hz1, hz2⟩ := info_parts infoHeld
 refine step_append_lies _ hgd sl x _ ho B 107 i0 _ 5 64 Tryz.underlying58 hi hz0 hz1 hz2 rfl (by decide) v n (hFlat ms) hs hown ⟨g, 0, none⟩ 1 c (hCells m) hx rfl (fun j u hu => by rw [add_zero_at]; exact hk j u hu) (hCells_one m) (by decide) (by unfold maxLen; omega) (by omega) hB _ rfl ?_
 intro y cap W2 h1 h2 h3 _
 exact h y cap W2 h1 h2 (h3.imp id fun h3 => by rw [h3]; exact Nat.le_refl _)
structure DfIn (w W : World) (X B : Nat) (dv hv : Value) (ks : List KeyV) (ms : List SetM) : Prop where
 below : Below w.heap.size w W
 new : w.heap.size ≤ X
 base : w.heap.size ≤ B ∧ B ≤ W.heap.size
 obj : W.heap[X]? = some (Obj.cells #[dv, hv] 60)
 drow : W.ownsRow B 111 4 dv ks.length (dFlat ks)
 hrow : W.ownsRow B 107 5 hv ms.length (hFlat ms)
 wds : ∀ m ∈ ms, OwnT w.heap.size W m.a m.c m.x.val.words
section
variable {w W W' W2 : World} {X B : Nat} {dv hv u : Value} {ks : List KeyV} {ms : List SetM}
theorem ownT_block {x : Option Addr} {cap : Nat} {xs : List ByteArray} (h : OwnT B W x cap xs) (hb : ∀ g : Nat, W.heap[g]? = some (Obj.cells (xs.map Value.string).toArray 9 (0, 0)) → W'.heap[g]? = W.heap[g]?) : OwnT B W' x cap xs := by
 rcases h with h | ⟨g, h1, h2, h3, h4, h5⟩
 ·exact .inl h
 ·exact .inr ⟨g, h1, h2, h3, h4, (hb g h5).trans h5⟩
theorem DfIn.after (h : DfIn w W X B dv hv ks ms) (hb : Below W.heap.size W W') : DfIn w W' X B dv hv ks ms :=
 ⟨h.below.trans (hb.mono h.below.size), h.new, ⟨h.base.1, Nat.le_trans h.base.2 hb.size⟩, (hb.block X (heap_ltF h.obj)).trans h.obj, rowBelow h.drow hb, rowBelow h.hrow hb, fun m hm => ownT_block (h.wds m hm) fun g hg => hb.block g (heap_ltF hg)⟩
theorem row_setX {size n : Nat} {e : TypeId} {v : Value} {xs : List Value} {a : Array Value} (h : W.ownsRow B e size v n xs) (hX : W.heap[X]? = some (Obj.cells a 60)) (he : 60 ≠ e) (j : Nat) (u : Value) : (W.setCell ⟨X, j, none⟩ u).ownsRow B e size v n xs :=
 h.kept (setGrown W X j u) (.inr (own_ne h hX he))
theorem setX0 {a b u : Value} {t : TypeId} (h : W.heap[X]? = some (Obj.cells #[a, b] t)) : (W.setCell ⟨X, 0, none⟩ u).heap[X]? = some (Obj.cells #[u, b] t) := by
 simp [World.setCell, Array.getElem?_modify, h]
theorem setX1 {a b u : Value} {t : TypeId} (h : W.heap[X]? = some (Obj.cells #[a, b] t)) : (W.setCell ⟨X, 1, none⟩ u).heap[X]? = some (Obj.cells #[a, u] t) := by
 simp [World.setCell, Array.getElem?_modify, h]
theorem DfIn.defs (h : DfIn w W X B dv hv ks ms) {k : KeyV} {dv' : Value} (hr : W2.ownsRow B 111 4 dv' (ks.length + 1) (dFlat ks ++ dCells k)) (hg : W.grownBy W2 dv.ownBlock) : DfIn w (W2.setCell ⟨X, 0, none⟩ dv') X B dv' hv (ks ++ [k]) ms := by
 have hXd := own_ne h.drow h.obj (by decide)
 have hX2 : W2.heap[X]? = some (Obj.cells #[dv, hv] 60) := (hg.block X (heap_ltF h.obj) (fun e => hXd e.symm)).trans h.obj
 have hb2 : Below w.heap.size w W2 := h.below.grown hg h.below.size (fun q hq => Nat.le_trans h.base.1 (h.drow.lt q hq).1)
 have hh2 := h.hrow.kept hg (rowApart h.hrow h.drow (by decide))
 refine ⟨hb2.setCell (p := ⟨X, 0, none⟩) h.new _, h.new, ⟨h.base.1, by simpa using Nat.le_trans h.base.2 hg.size⟩, setX0 hX2, ?_, row_setX hh2 hX2 (by decide) 0 dv', fun m hm => ?_⟩
 ·rw [List.length_append, dFlat_snoc]
  exact row_setX hr hX2 (by decide) 0 dv'
 ·have h1 : OwnT w.heap.size W2 m.a m.c m.x.val.words := ownT_block (h.wds m hm) fun g hgg => hg.block g (heap_ltF hgg) (fun e => own_ne h.drow hgg (by decide) e.symm)
  refine ownT_block h1 fun g hgg => Below.heap_setCell _ _ _ _ (fun e => ?_)
  have e : g = X := e
  subst e
  rw [hX2] at hgg
  injection hgg with hgg
  injection hgg with _ ht _
  exact absurd ht (by decide)
theorem DfIn.held (h : DfIn w W X B dv hv ks ms) {m0 : SetM} {hv' : Value} (hw : OwnT w.heap.size W m0.a m0.c m0.x.val.words) (hr : W2.ownsRow B 107 5 hv' (ms.length + 1) (hFlat ms ++ hCells m0)) (hg : W.grownBy W2 hv.ownBlock) : DfIn w (W2.setCell ⟨X, 1, none⟩ hv') X B dv hv' ks (ms ++ [m0]) := by
 have hXd := own_ne h.hrow h.obj (by decide)
 have hX2 : W2.heap[X]? = some (Obj.cells #[dv, hv] 60) := (hg.block X (heap_ltF h.obj) (fun e => hXd e.symm)).trans h.obj
 have hb2 : Below w.heap.size w W2 := h.below.grown hg h.below.size (fun q hq => Nat.le_trans h.base.1 (h.hrow.lt q hq).1)
 have hh2 := h.drow.kept hg (rowApart h.drow h.hrow (by decide))
 have key : ∀ m : SetM, OwnT w.heap.size W m.a m.c m.x.val.words → OwnT w.heap.size (W2.setCell ⟨X, 1, none⟩ hv') m.a m.c m.x.val.words := fun m hm => by
  have h1 : OwnT w.heap.size W2 m.a m.c m.x.val.words := ownT_block hm fun g hgg => hg.block g (heap_ltF hgg) (fun e => own_ne h.hrow hgg (by decide) e.symm)
  refine ownT_block h1 fun g hgg => Below.heap_setCell _ _ _ _ (fun e => ?_)
  have e : g = X := e
  subst e
  rw [hX2] at hgg
  injection hgg with hgg
  injection hgg with _ ht _
  exact absurd ht (by decide)
 refine ⟨hb2.setCell (p := ⟨X, 1, none⟩) h.new _, h.new, ⟨h.base.1, by simpa using Nat.le_trans h.base.2 hg.size⟩, setX1 hX2, row_setX hh2 hX2 (by decide) 1 hv', ?_, fun m hm => ?_⟩
 ·rw [List.length_append, hFlat_snoc]
  exact row_setX hr hX2 (by decide) 1 hv'
 ·rcases List.mem_append.1 hm with hm | hm
  ·exact key m (h.wds m hm)
  ·rw [List.mem_singleton.1 hm]; exact key m0 hw
theorem DfIn.start (w w1 : World) (hb : Below (w.alloc (Obj.cells #[.slice none 0 0, .slice none 0 0] 60)).heap.size (w.alloc (Obj.cells #[.slice none 0 0, .slice none 0 0] 60)) w1) : DfIn w w1 w.heap.size w1.heap.size (.slice none 0 0) (.slice none 0 0) [] [] := by
 have h0 := below_one w (Obj.cells #[.slice none 0 0, .slice none 0 0] 60)
 have hb1 := h0.trans (hb.mono h0.size)
 exact ⟨hb1, Nat.le_refl _, ⟨hb1.size, Nat.le_refl _⟩, (hb.block _ (by simp)).trans (heap_alloc_new w _), World.ownsRow_nil _ _ _ _, World.ownsRow_nil _ _ _ _, fun m hm => by cases hm⟩
theorem but_new {S g : Nat} {a b c : World} (h : But S a b) (hg : b.grownBy c (some g)) (hn : a.heap.size ≤ g) : But S a c :=
 ⟨hg.os.trans h.1, hg.tape.trans h.2.1, hg.output.trans h.2.2.1, Nat.le_trans h.2.2.2.1 hg.size, fun k hk hne => (hg.block k (Nat.lt_of_lt_of_le hk h.2.2.2.1) (fun e => by injection e with e; omega)).trans (h.2.2.2.2 k hk hne)⟩
theorem but_row {S B size n : Nat} {e : TypeId} {v : Value} {xs : List Value} {a b c : World} (h : But S a b) (hr : b.ownsRow B e size v n xs) (hB : a.heap.size ≤ B) (hg : b.grownBy c v.ownBlock) : But S a c := by
 cases hv : v.ownBlock with
 | none =>
  rw [hv] at hg
  exact ⟨hg.os.trans h.1, hg.tape.trans h.2.1, hg.output.trans h.2.2.1, Nat.le_trans h.2.2.2.1 hg.size, fun k hk hne => (hg.block k (Nat.lt_of_lt_of_le hk h.2.2.2.1) (by simp)).trans (h.2.2.2.2 k hk hne)⟩
 | some g =>
  have := (hr.lt g hv).1
  rw [hv] at hg
  exact but_new h hg (by omega)
theorem DfIn.done (h : DfIn w W X B dv hv ks ms) (hlen : ms.length = ks.length) : ∃ dx dc hx hc, LayAt (fun b => w.heap.size ≤ b ∧ b < W.heap.size ∧ b ≠ X) W X dx dc hx hc ks ms ∧ dv = .slice dx ks.length dc ∧ hv = .slice hx ms.length hc := by
 have hXl := heap_ltF h.obj
 obtain ⟨dx, dc, hdv⟩ := own_form h.drow
 obtain ⟨hx, hc, hhv⟩ := own_form h.hrow
 have hdl := dFlat_len ks
 have hhl := hFlat_len ms
 refine ⟨dx, dc, hx, hc, ⟨by rw [h.obj, hdv, hhv], fun i hi => ?_, fun i hi => ?_, fun hF => hF.2.2 rfl, ?_, fun b hF => hF.2.1⟩, hdv, hhv⟩
 ·rcases h.drow.2 with ⟨_, h2⟩ | ⟨g, cap, cur, h1, h2, hg, _⟩
  ·omega
  ·have hv2 := h.drow
   rw [h1] at hv2
   rw [hdv] at h1
   injection h1 with h1 _ _
   have hne : g ≠ X := fun e => own_ne h.drow h.obj (by decide) (by rw [hdv, h1, e]; rfl)
   have hc4 : ∀ j, j < 4 → W.cell? ⟨g, i * 4 + j, none⟩ = (dCells ks[i])[j]? := fun j hj => by rw [hv2.cellAt (i * 4 + j) (by omega), dFlat_at ks i hi j hj]
   exact ⟨g, h1, ⟨Nat.le_trans h.base.1 h2, heap_ltF hg, hne⟩, heap_ltF hg, hc4 0 (by decide), hc4 1 (by decide), hc4 2 (by decide), hc4 3 (by decide)⟩
 ·rcases h.hrow.2 with ⟨_, h2⟩ | ⟨g, cap, cur, h1, h2, hg, _⟩
  ·omega
  ·have hv2 := h.hrow
   rw [h1] at hv2
   rw [hhv] at h1
   injection h1 with h1 _ _
   have hne : g ≠ X := fun e => own_ne h.hrow h.obj (by decide) (by rw [hhv, h1, e]; rfl)
   refine ⟨g, h1, ⟨Nat.le_trans h.base.1 h2, heap_ltF hg, hne⟩, heap_ltF hg, fun j hj => by rw [hv2.cellAt (i * 5 + j) (by omega), hFlat_at ms i hi j hj], ?_⟩
   rcases h.wds ms[i] (List.getElem_mem hi) with ⟨h3, h4, h5⟩ | ⟨g2, h3, h4, h5, h6, h7⟩
   ·have h0 : ms[i].x.val.words.length = 0 := by rw [h4]; rfl
    exact ⟨fun k hk => by omega, by omega, fun b off hp => by omega⟩
   ·refine ⟨fun k hk => ⟨g2, 0, h3, heap_ltF h7, ?_⟩, by omega, fun b off hp e => ?_⟩
    ·rw [cell_of_row W g2 (0 + k) _ _ _ h7]; simp [hk]
    ·rw [h3] at e
     injection e with e
     injection e with e _ _
     subst e
     refine ⟨h4, heap_ltF h7, fun e2 => ?_⟩
     subst e2
     rw [h.obj] at h7
     injection h7 with h7
     injection h7 with _ ht _
     exact absurd ht (by decide)
 ·rcases h.hrow.2 with ⟨h1, h2⟩ | ⟨g, cap, cur, h1, _, _, hnc, _⟩
  ·omega
  ·rw [hhv] at h1
   injection h1 with _ _ h3
   omega
end
end Go.Proofs.YtlcgfdijohgnpaaGreatDoor
