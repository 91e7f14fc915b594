/-
  LayDefK, LayMerge.
-/
import Derived.Test.YtopghlnoklajkaaGreatDoorQLayPutK
import Derived.Test.YtopghlnoklajkaaGreatDoorQValueWords
import Derived.Test.YtopghlnoklajkaaGreatDoorQLayGet
namespace Go.Proofs.YtopghlnoklajkaaGreatDoor
open Go.ChangeShapes Go.WideShapes Go.ChangeAt Go.RowKit

def dCells (k : KeyV) : List Value := [.string k.name, .int .i64 k.kind, .int .i64 k.least, .int .i64 k.most]
def dFlat (ks : List KeyV) : List Value := ks.flatMap dCells
theorem dFlat_len (ks : List KeyV) : (dFlat ks).length = ks.length * 4 := by
  unfold dFlat
  induction ks with
  | nil => rfl
  | cons m r ih => rw [List.flatMap_cons, List.length_append, ih]; simp [dCells]; omega
theorem dFlat_snoc (a : List KeyV) (m : KeyV) : dFlat (a ++ [m]) = dFlat a ++ dCells m := by unfold dFlat; rw [List.flatMap_append]; simp
theorem hFlat_snoc (a : List SetM) (m : SetM) : hFlat (a ++ [m]) = hFlat a ++ hCells m := by unfold hFlat; rw [List.flatMap_append]; simp
theorem dFlat_at (l : List KeyV) : ∀ k (h : k < l.length) j, j < 4 → (dFlat l)[k * 4 + j]? = (dCells l[k])[j]? := by
  induction l with
  | nil => intro k h; simp at h
  | cons m r ih =>
    intro k h j hj
    unfold dFlat
    rw [List.flatMap_cons]
    cases k with
    | zero =>
      rw [Nat.zero_mul, Nat.zero_add, List.getElem?_append_left (by simp [dCells]; omega)]
      rfl
    | succ k =>
      rw [List.getElem?_append_right (by simp [dCells]; omega)]
      have := ih k (by simpa using h) j hj
      simp only [List.getElem_cons_succ]
      rw [← this]
      unfold dFlat
      congr 1
      simp [dCells]
      omega
theorem dCells_one (k : KeyV) : ∀ v ∈ dCells k, v.oneCell' = true := by
  intro v hv
  unfold dCells at hv
  simp only [List.mem_cons, List.not_mem_nil, or_false] at hv
  rcases hv with rfl | rfl | rfl | rfl <;> rfl
theorem hCells_one (m : SetM) : ∀ v ∈ hCells m, v.oneCell' = true := by
  intro v hv
  unfold hCells at hv
  simp only [List.mem_cons, List.not_mem_nil, or_false] at hv
  rcases hv with rfl | rfl | rfl | rfl | rfl <;> rfl
theorem infoDef : (Tryz.prog.info? 155).map (fun i => (i.zero, i.size, i.bytes)) = some (some (.agg #[.string ByteArray.empty, .int .i64 0, .int .i64 0, .int .i64 0]), 4, 40) := by kernel_rfl
theorem stepD {ops : Array Oper} {o : Oper} {a : Act} {W : World} {K : Act → World → Prop} {Q : Exit → Act → World → Prop} {E : Prop} (hgd : o.guard = none) (sl x : Operand)
    (ho : o.op = .call { callee := .builtin .append, args := #[sl, x], argTypes := #[82, 82] }) {B n : Nat} {v : Value} {ks : List KeyV} (hown : W.ownsRow B 155 4 v n (dFlat ks)) (hB : B ≤ W.heap.size) (hn : n ≤ 10000000000) (k : KeyV) (hs : a.eval sl = v)
    {g c : Nat} (hx : a.eval x = .slice (some ⟨g, 0, none⟩) 1 c) (hk : ∀ j u, (dCells k)[j]? = some u → W.cell? ⟨g, j, none⟩ = some u)
    (h : ∀ y cap W2, W2.ownsRow B 155 4 (.slice (some ⟨y, 0, none⟩) (n + 1) cap) (n + 1) (dFlat ks ++ dCells k) → W.grownBy W2 v.ownBlock → (v.ownBlock = some y ∨ W.heap.size ≤ y) → K (a.put o.dst (.slice (some ⟨y, 0, none⟩) (n + 1) cap)) W2) :
    if Region.wanted o (yielded ops a.tmps) = true then Oper.wp Tryz.prog o a W K Q else E := by
  obtain ⟨i0, hi, hz0, hz1, hz2⟩ := info_parts infoDef
  refine step_append_lies _ hgd sl x _ ho B 155 i0 _ 4 40 Tryz.underlying82 hi hz0 hz1 hz2 rfl (by decide) v n (dFlat ks) hs hown ⟨g, 0, none⟩ 1 c (dCells k) hx rfl (fun j u hu => by rw [add_zero_at]; exact hk j u hu) (dCells_one k) (by decide) (by unfold maxLen; omega) (by omega) hB _ rfl ?_
  intro y cap W2 h1 h2 h3 _
  exact h y cap W2 h1 h2 (h3.imp id fun h3 => by rw [h3]; exact Nat.le_refl _)
theorem stepH {ops : Array Oper} {o : Oper} {a : Act} {W : World} {K : Act → World → Prop} {Q : Exit → Act → World → Prop} {E : Prop} (hgd : o.guard = none) (sl x : Operand)
    (ho : o.op = .call { callee := .builtin .append, args := #[sl, x], argTypes := #[83, 83] }) {B n : Nat} {v : Value} {ms : List SetM} (hown : W.ownsRow B 112 5 v n (hFlat ms)) (hB : B ≤ W.heap.size) (hn : n ≤ 10000000000) (m : SetM) (hs : a.eval sl = v)
    {g c : Nat} (hx : a.eval x = .slice (some ⟨g, 0, none⟩) 1 c) (hk : ∀ j u, (hCells m)[j]? = some u → W.cell? ⟨g, j, none⟩ = some u)
    (h : ∀ y cap W2, W2.ownsRow B 112 5 (.slice (some ⟨y, 0, none⟩) (n + 1) cap) (n + 1) (hFlat ms ++ hCells m) → W.grownBy W2 v.ownBlock → (v.ownBlock = some y ∨ W.heap.size ≤ y) → K (a.put o.dst (.slice (some ⟨y, 0, none⟩) (n + 1) cap)) W2) :
    if Region.wanted o (yielded ops a.tmps) = true then Oper.wp Tryz.prog o a W K Q else E := by
  obtain ⟨i0, hi, hz0, hz1, hz2⟩ := info_parts infoHeld
  refine step_append_lies _ hgd sl x _ ho B 112 i0 _ 5 64 Tryz.underlying83 hi hz0 hz1 hz2 rfl (by decide) v n (hFlat ms) hs hown ⟨g, 0, none⟩ 1 c (hCells m) hx rfl (fun j u hu => by rw [add_zero_at]; exact hk j u hu) (hCells_one m) (by decide) (by unfold maxLen; omega) (by omega) hB _ rfl ?_
  intro y cap W2 h1 h2 h3 _
  exact h y cap W2 h1 h2 (h3.imp id fun h3 => by rw [h3]; exact Nat.le_refl _)
/-- Settings that are being made: their object X. -/
structure DfIn (w W : World) (X B : Nat) (dv hv : Value) (ks : List KeyV) (ms : List SetM) : Prop where
  below : Below w.heap.size w W
  new : w.heap.size ≤ X
  base : w.heap.size ≤ B ∧ B ≤ W.heap.size
  obj : W.heap[X]? = some (Obj.cells #[dv, hv] 85)
  drow : W.ownsRow B 155 4 dv ks.length (dFlat ks)
  hrow : W.ownsRow B 112 5 hv ms.length (hFlat ms)
  wds : ∀ m ∈ ms, OwnT w.heap.size W m.a m.c m.x.val.words
section
variable {w W W' W2 : World} {X B : Nat} {dv hv u : Value} {ks : List KeyV} {ms : List SetM}
theorem ownT_block {x : Option Addr} {cap : Nat} {xs : List ByteArray} (h : OwnT B W x cap xs) (hb : ∀ g : Nat, W.heap[g]? = some (Obj.cells (xs.map Value.string).toArray 9 (0, 0)) → W'.heap[g]? = W.heap[g]?) : OwnT B W' x cap xs := by
  rcases h with h | ⟨g, h1, h2, h3, h4, h5⟩
  · exact .inl h
  · exact .inr ⟨g, h1, h2, h3, h4, (hb g h5).trans h5⟩
theorem DfIn.after (h : DfIn w W X B dv hv ks ms) (hb : Below W.heap.size W W') : DfIn w W' X B dv hv ks ms :=
  ⟨h.below.trans (hb.mono h.below.size), h.new, ⟨h.base.1, Nat.le_trans h.base.2 hb.size⟩, (hb.block X (heap_ltF h.obj)).trans h.obj, rowBelow h.drow hb, rowBelow h.hrow hb, fun m hm => ownT_block (h.wds m hm) fun g hg => hb.block g (heap_ltF hg)⟩
theorem row_setX {size n : Nat} {e : TypeId} {v : Value} {xs : List Value} {a : Array Value} (h : W.ownsRow B e size v n xs) (hX : W.heap[X]? = some (Obj.cells a 85)) (he : 85 ≠ e) (j : Nat) (u : Value) : (W.setCell ⟨X, j, none⟩ u).ownsRow B e size v n xs :=
  h.kept (setGrown W X j u) (.inr (own_ne h hX he))
theorem setX0 {a b u : Value} {t : TypeId} (h : W.heap[X]? = some (Obj.cells #[a, b] t)) : (W.setCell ⟨X, 0, none⟩ u).heap[X]? = some (Obj.cells #[u, b] t) := by
  simp [World.setCell, Array.getElem?_modify, h]
theorem setX1 {a b u : Value} {t : TypeId} (h : W.heap[X]? = some (Obj.cells #[a, b] t)) : (W.setCell ⟨X, 1, none⟩ u).heap[X]? = some (Obj.cells #[a, u] t) := by
  simp [World.setCell, Array.getElem?_modify, h]
/-- A definition is there, and told to the object. -/
theorem DfIn.defs (h : DfIn w W X B dv hv ks ms) {k : KeyV} {dv' : Value} (hr : W2.ownsRow B 155 4 dv' (ks.length + 1) (dFlat ks ++ dCells k)) (hg : W.grownBy W2 dv.ownBlock) : DfIn w (W2.setCell ⟨X, 0, none⟩ dv') X B dv' hv (ks ++ [k]) ms := by
  have hXd := own_ne h.drow h.obj (by decide)
  have hX2 : W2.heap[X]? = some (Obj.cells #[dv, hv] 85) := (hg.block X (heap_ltF h.obj) (fun e => hXd e.symm)).trans h.obj
  have hb2 : Below w.heap.size w W2 := h.below.grown hg h.below.size (fun q hq => Nat.le_trans h.base.1 (h.drow.lt q hq).1)
  have hh2 := h.hrow.kept hg (rowApart h.hrow h.drow (by decide))
  refine ⟨hb2.setCell (p := ⟨X, 0, none⟩) h.new _, h.new, ⟨h.base.1, by simpa using Nat.le_trans h.base.2 hg.size⟩, setX0 hX2, ?_, row_setX hh2 hX2 (by decide) 0 dv', fun m hm => ?_⟩
  · rw [List.length_append, dFlat_snoc]
    exact row_setX hr hX2 (by decide) 0 dv'
  · have h1 : OwnT w.heap.size W2 m.a m.c m.x.val.words := ownT_block (h.wds m hm) fun g hgg => hg.block g (heap_ltF hgg) (fun e => own_ne h.drow hgg (by decide) e.symm)
    refine ownT_block h1 fun g hgg => Below.heap_setCell _ _ _ _ (fun e => ?_)
    have e : g = X := e
    subst e
    rw [hX2] at hgg
    injection hgg with hgg
    injection hgg with _ ht _
    exact absurd ht (by decide)
/-- What it holds is there, and told to the object. -/
theorem DfIn.held (h : DfIn w W X B dv hv ks ms) {m0 : SetM} {hv' : Value} (hw : OwnT w.heap.size W m0.a m0.c m0.x.val.words) (hr : W2.ownsRow B 112 5 hv' (ms.length + 1) (hFlat ms ++ hCells m0)) (hg : W.grownBy W2 hv.ownBlock) : DfIn w (W2.setCell ⟨X, 1, none⟩ hv') X B dv hv' ks (ms ++ [m0]) := by
  have hXd := own_ne h.hrow h.obj (by decide)
  have hX2 : W2.heap[X]? = some (Obj.cells #[dv, hv] 85) := (hg.block X (heap_ltF h.obj) (fun e => hXd e.symm)).trans h.obj
  have hb2 : Below w.heap.size w W2 := h.below.grown hg h.below.size (fun q hq => Nat.le_trans h.base.1 (h.hrow.lt q hq).1)
  have hh2 := h.drow.kept hg (rowApart h.drow h.hrow (by decide))
  have key : ∀ m : SetM, OwnT w.heap.size W m.a m.c m.x.val.words → OwnT w.heap.size (W2.setCell ⟨X, 1, none⟩ hv') m.a m.c m.x.val.words := fun m hm => by
    have h1 : OwnT w.heap.size W2 m.a m.c m.x.val.words := ownT_block hm fun g hgg => hg.block g (heap_ltF hgg) (fun e => own_ne h.hrow hgg (by decide) e.symm)
    refine ownT_block h1 fun g hgg => Below.heap_setCell _ _ _ _ (fun e => ?_)
    have e : g = X := e
    subst e
    rw [hX2] at hgg
    injection hgg with hgg
    injection hgg with _ ht _
    exact absurd ht (by decide)
  refine ⟨hb2.setCell (p := ⟨X, 1, none⟩) h.new _, h.new, ⟨h.base.1, by simpa using Nat.le_trans h.base.2 hg.size⟩, setX1 hX2, row_setX hh2 hX2 (by decide) 1 hv', ?_, fun m hm => ?_⟩
  · rw [List.length_append, hFlat_snoc]
    exact row_setX hr hX2 (by decide) 1 hv'
  · rcases List.mem_append.1 hm with hm | hm
    · exact key m (h.wds m hm)
    · rw [List.mem_singleton.1 hm]; exact key m0 hw
theorem DfIn.start (w w1 : World) (hb : Below (w.alloc (Obj.cells #[.slice none 0 0, .slice none 0 0] 85)).heap.size (w.alloc (Obj.cells #[.slice none 0 0, .slice none 0 0] 85)) w1) : DfIn w w1 w.heap.size w1.heap.size (.slice none 0 0) (.slice none 0 0) [] [] := by
  have h0 := below_one w (Obj.cells #[.slice none 0 0, .slice none 0 0] 85)
  have hb1 := h0.trans (hb.mono h0.size)
  exact ⟨hb1, Nat.le_refl _, ⟨hb1.size, Nat.le_refl _⟩, (hb.block _ (by simp)).trans (heap_alloc_new w _), World.ownsRow_nil _ _ _ _, World.ownsRow_nil _ _ _ _, fun m hm => by cases hm⟩
theorem but_new {S g : Nat} {a b c : World} (h : But S a b) (hg : b.grownBy c (some g)) (hn : a.heap.size ≤ g) : But S a c :=
  ⟨hg.os.trans h.1, hg.tape.trans h.2.1, hg.output.trans h.2.2.1, Nat.le_trans h.2.2.2.1 hg.size, fun k hk hne => (hg.block k (Nat.lt_of_lt_of_le hk h.2.2.2.1) (fun e => by injection e with e; omega)).trans (h.2.2.2.2 k hk hne)⟩
theorem but_row {S B size n : Nat} {e : TypeId} {v : Value} {xs : List Value} {a b c : World} (h : But S a b) (hr : b.ownsRow B e size v n xs) (hB : a.heap.size ≤ B) (hg : b.grownBy c v.ownBlock) : But S a c := by
  cases hv : v.ownBlock with
  | none =>
    rw [hv] at hg
    exact ⟨hg.os.trans h.1, hg.tape.trans h.2.1, hg.output.trans h.2.2.1, Nat.le_trans h.2.2.2.1 hg.size, fun k hk hne => (hg.block k (Nat.lt_of_lt_of_le hk h.2.2.2.1) (by simp)).trans (h.2.2.2.2 k hk hne)⟩
  | some g =>
    have := (hr.lt g hv).1
    rw [hv] at hg
    exact but_new h hg (by omega)
/-- Settings that were made. -/
theorem DfIn.done (h : DfIn w W X B dv hv ks ms) (hlen : ms.length = ks.length) : ∃ dx dc hx hc, LayAt (fun b => w.heap.size ≤ b ∧ b < W.heap.size ∧ b ≠ X) W X dx dc hx hc ks ms ∧ dv = .slice dx ks.length dc ∧ hv = .slice hx ms.length hc := by
  have hXl := heap_ltF h.obj
  obtain ⟨dx, dc, hdv⟩ := own_form h.drow
  obtain ⟨hx, hc, hhv⟩ := own_form h.hrow
  have hdl := dFlat_len ks
  have hhl := hFlat_len ms
  refine ⟨dx, dc, hx, hc, ⟨by rw [h.obj, hdv, hhv], fun i hi => ?_, fun i hi => ?_, fun hF => hF.2.2 rfl, ?_, fun b hF => hF.2.1⟩, hdv, hhv⟩
  · rcases h.drow.2 with ⟨_, h2⟩ | ⟨g, cap, cur, h1, h2, hg, _⟩
    · omega
    · have hv2 := h.drow
      rw [h1] at hv2
      rw [hdv] at h1
      injection h1 with h1 _ _
      have hne : g ≠ X := fun e => own_ne h.drow h.obj (by decide) (by rw [hdv, h1, e]; rfl)
      have hc4 : ∀ j, j < 4 → W.cell? ⟨g, i * 4 + j, none⟩ = (dCells ks[i])[j]? := fun j hj => by rw [hv2.cellAt (i * 4 + j) (by omega), dFlat_at ks i hi j hj]
      exact ⟨g, h1, ⟨Nat.le_trans h.base.1 h2, heap_ltF hg, hne⟩, heap_ltF hg, hc4 0 (by decide), hc4 1 (by decide), hc4 2 (by decide), hc4 3 (by decide)⟩
  · rcases h.hrow.2 with ⟨_, h2⟩ | ⟨g, cap, cur, h1, h2, hg, _⟩
    · omega
    · have hv2 := h.hrow
      rw [h1] at hv2
      rw [hhv] at h1
      injection h1 with h1 _ _
      have hne : g ≠ X := fun e => own_ne h.hrow h.obj (by decide) (by rw [hhv, h1, e]; rfl)
      refine ⟨g, h1, ⟨Nat.le_trans h.base.1 h2, heap_ltF hg, hne⟩, heap_ltF hg, fun j hj => by rw [hv2.cellAt (i * 5 + j) (by omega), hFlat_at ms i hi j hj], ?_⟩
      rcases h.wds ms[i] (List.getElem_mem hi) with ⟨h3, h4, h5⟩ | ⟨g2, h3, h4, h5, h6, h7⟩
      · have h0 : ms[i].x.val.words.length = 0 := by rw [h4]; rfl
        exact ⟨fun k hk => by omega, by omega, fun b off hp => by omega⟩
      · refine ⟨fun k hk => ⟨g2, 0, h3, heap_ltF h7, ?_⟩, by omega, fun b off hp e => ?_⟩
        · rw [cell_of_row W g2 (0 + k) _ _ _ h7]; simp [hk]
        · rw [h3] at e
          injection e with e
          injection e with e _ _
          subst e
          refine ⟨h4, heap_ltF h7, fun e2 => ?_⟩
          subst e2
          rw [h.obj] at h7
          injection h7 with h7
          injection h7 with _ ht _
          exact absurd ht (by decide)
  · rcases h.hrow.2 with ⟨h1, h2⟩ | ⟨g, cap, cur, h1, _, _, hnc, _⟩
    · omega
    · rw [hhv] at h1
      injection h1 with _ _ h3
      omega
end
end Go.Proofs.YtopghlnoklajkaaGreatDoor

namespace Go.Proofs.YtopghlnoklajkaaGreatDoor
open Go.ChangeShapes Go.WideShapes Go.ChangeAt Go.RowKit

set_option maxRecDepth 100000 in
theorem kclone_none (w : World) : Calls Tryz.prog 120 #[.slice none 0 0] w fun e w' => e = .returned (.slice none 0 0) ∧ w = w' := by
  have hq : ∀ (w : World) (a : Option Addr) (n c n' c' : Nat), (binOp .eql 32 (.slice a n c) (.slice none n' c')).run Tryz.prog w = .ok (.bool a.isNone) w := fun w a n c n' c' => Lib.run_eql_slice_nil w _ _ a n c n' c' Tryz.underlying32
  go_enter Tryz.func120, Tryz.ntmps120
  go_wp2
  go_ret
  exact ⟨rfl, rfl⟩
set_option maxRecDepth 100000 in
theorem kall_none (S : Nat) (w : World) (hc : w.cell? ⟨S, 0, none⟩ = some (.slice none 0 0)) :
    Calls Tryz.prog 88 #[.pointer (some ⟨S, 0, none⟩)] w fun e w' => e = .returned (.slice none 0 0) ∧ w = w' := by
  have HC := Lib.hid (kclone_none w)
  go_enter Tryz.func88, Tryz.ntmps88
  go_wp2_with fail
  refine HC.out.mono ?_
  rintro e w' ⟨rfl, rfl⟩
  go_wp2
  go_ret
  exact ⟨rfl, rfl⟩
/-- A set's definitions, all of them (the empty set too). -/
theorem kall_there (xs : List KeyV) (S : Nat) (x : Option Addr) (c : Nat) (w : World) (h : SetAt w S x c xs) (hn : xs.length ≤ 1000000) :
    Calls Tryz.prog 88 #[.pointer (some ⟨S, 0, none⟩)] w fun e w' => ∃ y d, e = .returned (.slice y xs.length d) ∧ Keys w' y xs ∧ Below w.heap.size w w' := by
  by_cases h0 : 0 < xs.length
  · refine (all_any xs S x c w h h0 hn).mono ?_
    rintro e w' ⟨g, c', rfl, h1, h2, h3, h4⟩
    exact ⟨_, _, rfl, h3, h4⟩
  · have e : xs = [] := List.eq_nil_of_length_eq_zero (by omega)
    subst e
    obtain ⟨rfl, rfl⟩ := h.none_ rfl
    refine (kall_none S w h.cell).mono ?_
    rintro e w' ⟨rfl, rfl⟩
    exact ⟨none, 0, rfl, Keys.nil_ _ _, Below.refl _ _⟩
theorem cells_new (w : World) (l : List Value) (t : TypeId) : ∀ (j : Nat) (u : Value), l[j]? = some u → (w.alloc (Obj.cells l.toArray t)).cell? ⟨w.heap.size, j, none⟩ = some u := fun j u h => by
  rw [cell_of_row _ w.heap.size j _ _ _ (heap_alloc_new w _)]
  simpa using h
/-- A setting where nobody gave anything. -/
def dfltS (k : KeyV) : SetV := ⟨k.name, (parseV k.kind k.dflt).1, 0⟩
/-- Definitions that a set may have. -/
structure GoodK (ks : List KeyV) : Prop where
  sorted : Sorted ks
  len : ks.length ≤ 64
  form : ∀ k ∈ ks, formK k = true
  dflt : ∀ k ∈ ks, dfltK k = true
  small : ∀ k ∈ ks, Small k
theorem DfIn.other {w W W2 : World} {X Q B : Nat} {dv hv u : Value} {ks : List KeyV} {ms : List SetM} (h : DfIn w W X B dv hv ks ms) (hg : W.grownBy W2 dv.ownBlock) {a : Array Value} {t : TypeId} {fr : Nat × Nat} (hQ : W.heap[Q]? = some (Obj.cells a t fr)) (ht : t ≠ 155) (hX : t ≠ 85) : (W2.setCell ⟨X, 0, none⟩ u).heap[Q]? = some (Obj.cells a t fr) := by
  have hne : Q ≠ X := fun e => by
    subst e
    rw [h.obj] at hQ
    injection hQ with hQ
    injection hQ with _ h2 _
    exact hX h2.symm
  rw [Below.heap_setCell _ _ _ _ hne]
  exact (hg.block Q (heap_ltF hQ) (fun e => own_ne h.drow hQ ht e.symm)).trans hQ
theorem Keys.but {w w' : World} {X : Nat} {x : Option Addr} {ks : List KeyV} {a b : Value} {t : TypeId} (h : Keys w x ks) (hX : w.heap[X]? = some (Obj.cells #[a, b] t)) (ha : ∀ s, a ≠ .string s) (hb : But X w w') : Keys w' x ks := by
  have hne : ∀ i (hi : i < ks.length) b0, x = some ⟨b0, 0, none⟩ → b0 ≠ X := fun i hi b0 e e2 => by
    subst e2
    obtain ⟨b1, e3, _, c0, _⟩ := h 0 (by omega)
    have : b0 = b1 := by rw [e] at e3; simpa using e3
    subst this
    rw [cell_of_row w b0 _ _ _ _ hX, Nat.zero_mul] at c0
    exact ha _ (Option.some.inj c0)
  intro i hi
  obtain ⟨b0, e, hl, c0, c1, c2, c3, c4, c5⟩ := h i hi
  have hn := hne i hi b0 e
  exact ⟨b0, e, Nat.lt_of_lt_of_le hl hb.2.2.2.1, by rw [hb.cell (p := ⟨b0, _, none⟩) hl hn]; exact c0, by rw [hb.cell (p := ⟨b0, _, none⟩) hl hn]; exact c1, by rw [hb.cell (p := ⟨b0, _, none⟩) hl hn]; exact c2, by rw [hb.cell (p := ⟨b0, _, none⟩) hl hn]; exact c3, by rw [hb.cell (p := ⟨b0, _, none⟩) hl hn]; exact c4, by rw [hb.cell (p := ⟨b0, _, none⟩) hl hn]; exact c5⟩
theorem DfIn.cells {w W : World} {X B : Nat} {dv hv : Value} {ks : List KeyV} {ms : List SetM} (h : DfIn w W X B dv hv ks ms) : W.cell? ⟨X, 0, none⟩ = some dv ∧ W.cell? ⟨X, 1, none⟩ = some hv ∧ ∀ j, W.frozen? ⟨X, j, none⟩ = false :=
  ⟨by rw [cell_of_row W X 0 _ _ _ h.obj]; rfl, by rw [cell_of_row W X 1 _ _ _ h.obj]; rfl, fun j => by simp [World.frozen?, h.obj]⟩
/-- The cells of a definition that defaults reads. -/
def Key4 (w : World) (K : Nat) (nm : ByteArray) (kd la mo : Int) : Prop := w.cell? ⟨K, 0, none⟩ = some (.string nm) ∧ w.cell? ⟨K, 1, none⟩ = some (.int .i64 kd) ∧ w.cell? ⟨K, 3, none⟩ = some (.int .i64 la) ∧ w.cell? ⟨K, 4, none⟩ = some (.int .i64 mo)
theorem key4 {w : World} {K : Nat} {nm dl le : ByteArray} {kd la mo : Int} {t : TypeId} {fr : Nat × Nat} (h : w.heap[K]? = some (Obj.cells #[.string nm, .int .i64 kd, .string dl, .int .i64 la, .int .i64 mo, .string le] t fr)) : Key4 w K nm kd la mo :=
  ⟨by rw [cell_of_row w K 0 _ _ _ h]; rfl, by rw [cell_of_row w K 1 _ _ _ h]; rfl, by rw [cell_of_row w K 3 _ _ _ h]; rfl, by rw [cell_of_row w K 4 _ _ _ h]; rfl⟩
/-- The cells of a value that defaults reads. -/
def Val4 (w : World) (V : Nat) (pk pi : Int) (pt : ByteArray) (x : Value) : Prop := w.cell? ⟨V, 0, none⟩ = some (.int .i64 pk) ∧ w.cell? ⟨V, 1, none⟩ = some (.int .i64 pi) ∧ w.cell? ⟨V, 2, none⟩ = some (.string pt) ∧ w.cell? ⟨V, 3, none⟩ = some x
theorem val4 {w : World} {V : Nat} {pk pi : Int} {pt : ByteArray} {x : Value} {t : TypeId} {fr : Nat × Nat} (h : w.heap[V]? = some (Obj.cells #[.int .i64 pk, .int .i64 pi, .string pt, x] t fr)) : Val4 w V pk pi pt x :=
  ⟨by rw [cell_of_row w V 0 _ _ _ h]; rfl, by rw [cell_of_row w V 1 _ _ _ h]; rfl, by rw [cell_of_row w V 2 _ _ _ h]; rfl, by rw [cell_of_row w V 3 _ _ _ h]; rfl⟩
theorem DfIn.otherH {w W W2 : World} {X Q B : Nat} {dv hv u : Value} {ks : List KeyV} {ms : List SetM} (h : DfIn w W X B dv hv ks ms) (hg : W.grownBy W2 hv.ownBlock) {a : Array Value} {t : TypeId} {fr : Nat × Nat} (hQ : W.heap[Q]? = some (Obj.cells a t fr)) (ht : t ≠ 112) (hX : t ≠ 85) : (W2.setCell ⟨X, 1, none⟩ u).heap[Q]? = some (Obj.cells a t fr) := by
  have hne : Q ≠ X := fun e => by
    subst e
    rw [h.obj] at hQ
    injection hQ with hQ
    injection hQ with _ h2 _
    exact hX h2.symm
  rw [Below.heap_setCell _ _ _ _ hne]
  exact (hg.block Q (heap_ltF hQ) (fun e => own_ne h.hrow hQ ht e.symm)).trans hQ
/-- What defaults answers. -/
def DfRes (ks : List KeyV) (w : World) (e : Ending) (w' : World) : Prop := ∃ dv hv ms, e = .returned (.pointer (some ⟨w.heap.size, 0, none⟩)) ∧ (∃ B, DfIn w w' w.heap.size B dv hv ks ms) ∧ ms.map (·.x) = ks.map dfltS
set_option maxHeartbeats 6400000 in
set_option maxRecDepth 100000 in
theorem ldefaults_any (ks : List KeyV) (S : Nat) (sx : Option Addr) (sc : Nat) (w : World) (hS : SetAt w S sx sc ks) (hG : GoodK ks) (hT : Tab w) (hU : Units w) (hM : MaxI w) :
    Calls Tryz.prog 49 #[.pointer (some ⟨S, 0, none⟩)] w (DfRes ks w) := by
  obtain ⟨n, hn'⟩ : ∃ n, ks.length = n := ⟨_, rfl⟩
  have hn : n ≤ 64 := by rw [← hn']; exact hG.len
  have HN := Lib.hid hn'
  have HAL : Hid (∀ o, Calls Tryz.prog 88 #[.pointer (some ⟨S, 0, none⟩)] (w.alloc o) fun e w' => ∃ y d, e = .returned (.slice y n d) ∧ Keys w' y ks ∧ Below (w.alloc o).heap.size (w.alloc o) w') := Lib.hid fun o => by
    have := kall_there ks S sx sc (w.alloc o) (hS.below (below_one w o)) (by omega)
    rw [hn'] at this; exact this
  have HPA : Hid (∀ k ∈ ks, ∀ W, Below w.heap.size w W → Calls Tryz.prog 89 #[.int .i64 k.kind, .string k.dflt] W (ParseRes W (parseV k.kind k.dflt))) := Lib.hid fun k hk W hb => parse_any k.kind k.dflt W (hT.below hb) (hU.below hb) (hM.below hb) (by have := (hG.small k hk).2.1; unfold maxLen; omega)
  have HCL : Hid (∀ k ∈ ks, ∀ W, Calls Tryz.prog 27 #[.string k.name] W fun e w' => e = .returned (.string k.name) ∧ Below W.heap.size W w') := Lib.hid fun k hk W => clone_any k.name W (by have := (hG.small k hk).1; omega)
  clear hS hG hT hU hM hn'
  go_enter Tryz.func49, Tryz.ntmps49
  go_wp2_with fail
  refine (HAL.out _).mono ?_
  rintro e w1 ⟨y, d, rfl, hk1, hb1⟩
  have HI1 := Lib.hid (DfIn.start w w1 hb1)
  have HKB : Hid (∀ W, But w.heap.size w1 W → Keys W y ks) := Lib.hid fun W hW => hk1.but HI1.out.obj (fun s => by simp) hW
  have HB1 := Lib.hid (But.refl w.heap.size w1)
  clear hk1 hb1 HAL
  go_wp2
  go_loopw [13] (fun i wr => ∃ (k : Nat) (dv hv : Value) (ls : List SetM), i = .int .i64 k ∧ k ≤ n ∧ ls.length = k ∧ ls.map (·.x) = (ks.take k).map dfltS ∧ Hid (DfIn w wr w.heap.size w1.heap.size dv hv (ks.take k) ls) ∧ Hid (But w.heap.size w1 wr)) (fun i _ => n - (intOf i).toNat)
  case atStart => exact ⟨0, _, _, [], rfl, by omega, rfl, rfl, HI1, HB1⟩
  case round =>
    clear HI1 HB1
    obtain ⟨k, dv, hv, ls, rfl, hk, hll, hlx, HI, HK⟩ := hrel
    have HLX := Lib.hid hlx
    have HLL := Lib.hid hll
    clear hlx
    by_cases hlt : k < n
    · have q1 : (0 : Int) ≤ k := by omega
      have q2 : (k : Int) < n := by omega
      have HLB : Hid (w.heap.size ≤ (wr.heap.size)) := Lib.hid HI.out.below.size
      have hkk : k < ks.length := by rw [HN.out]; exact hlt
      obtain ⟨b, hye, hbl, c0, c1, c2, c3, c4, c5⟩ := (HKB.out wr HK.out) k hkk
      have HP := Lib.hid (HPA.out _ (List.getElem_mem hkk))
      have HC := Lib.hid (HCL.out _ (List.getElem_mem hkk))
      have htk : ks.take (k + 1) = ks.take k ++ [ks[k]] := List.take_succ_eq_append_getElem hkk
      have htl : (ks.take k).length = k := by rw [List.length_take, HN.out]; omega
      generalize ks[k] = key at *
      obtain ⟨nm, kd, dl, la, mo, le⟩ := key
      simp only at c0 c1 c2 c3 c4 c5 HP HC
      have HTK := Lib.hid (And.intro htk htl)
      obtain ⟨⟨⟨pk, pi, pt, pw⟩, pe⟩, hpv⟩ : ∃ p, parseV kd dl = p := ⟨_, rfl⟩
      rw [hpv] at HP
      have HPV := Lib.hid hpv
      have HB0 : Hid (∀ o, DfIn w (wr.alloc o) w.heap.size w1.heap.size dv hv (ks.take k) ls ∧ But w.heap.size w1 (wr.alloc o)) := Lib.hid fun o => ⟨HI.out.after (below_one wr o), HK.out.then_below (below_one wr o)⟩
      subst hye
      clear htk htl hkk hpv HI HK hll
      go_wp2_with fail
      refine (HP.out _ (HB0.out _).1.below).mono ?_
      rintro e w5 ⟨hb5, x5, c5', rfl, hw5⟩
      have HI5 := Lib.hid ((HB0.out _).1.after hb5)
      have HK5 := Lib.hid ((HB0.out _).2.then_below hb5)
      have hKk : w5.heap[wr.heap.size]? = some (Obj.cells #[.string nm, .int .i64 kd, .string dl, .int .i64 la, .int .i64 mo, .string le] 73) := by
        rw [hb5.block wr.heap.size (by simp)]
        exact heap_alloc_new wr _
      have HKK := Lib.hid hKk
      have HW5 := Lib.hid (And.intro hw5 (show wr.heap.size + 1 ≤ w5.heap.size by have := hb5.size; simpa using this))
      clear hb5 hw5 hKk HB0 HP c0 c1 c2 c3 c4 c5
      have HV5 : Hid (∀ t, (w5.alloc (Obj.cells #[.int .i64 pk, .int .i64 pi, .string pt, .slice x5 pw.length c5'] t)).heap[w5.heap.size]? = some (Obj.cells #[.int .i64 pk, .int .i64 pi, .string pt, .slice x5 pw.length c5'] t)) := Lib.hid fun t => heap_alloc_new w5 _
      obtain ⟨nw, hnw⟩ : ∃ nw, pw.length = nw := ⟨_, rfl⟩
      have HNW := Lib.hid hnw
      rw [hnw] at HV5
      simp only at HW5
      simp only [hnw]
      clear hnw
      go_wp2
      obtain ⟨WA, hWA⟩ : ∃ W, w5.alloc (Obj.cells #[.int .i64 pk, .int .i64 pi, .string pt, .slice x5 nw c5'] 48) = W := ⟨_, rfl⟩
      have hba : Below w5.heap.size w5 WA := by rw [← hWA]; exact below_one w5 _
      have hVA : WA.heap[w5.heap.size]? = some (Obj.cells #[.int .i64 pk, .int .i64 pi, .string pt, .slice x5 nw c5'] 48) := by rw [← hWA]; exact HV5.out _
      have HIA := Lib.hid (HI5.out.after hba)
      have HKA := Lib.hid (HK5.out.then_below hba)
      have hKA := (hba.block wr.heap.size HW5.out.2).trans HKK.out
      have HWA : Hid (OwnT w.heap.size WA x5 c5' pw) := Lib.hid (by
        have h1 : OwnT w.heap.size w5 x5 c5' pw := by
          rcases HW5.out.1 with h | ⟨g, h1, h2, h3, h4, h6⟩
          · exact .inl h
          · exact .inr ⟨g, h1, by have h7 := HLB.out; simp at h2; omega, h3, h4, h6⟩
        exact ownT_block h1 fun g hg => hba.block g (heap_ltF hg))
      have HAB := Lib.hid (And.intro hKA hVA)
      obtain ⟨a0, _, _⟩ := HIA.out.cells
      have k0 := cell_of_row WA wr.heap.size 0 _ _ _ hKA
      have k1 := cell_of_row WA wr.heap.size 1 _ _ _ hKA
      have k3 := cell_of_row WA wr.heap.size 3 _ _ _ hKA
      have k4 := cell_of_row WA wr.heap.size 4 _ _ _ hKA
      replace k0 : WA.cell? ⟨wr.heap.size, 0, none⟩ = some (.string nm) := k0
      replace k1 : WA.cell? ⟨wr.heap.size, 1, none⟩ = some (.int .i64 kd) := k1
      replace k3 : WA.cell? ⟨wr.heap.size, 3, none⟩ = some (.int .i64 la) := k3
      replace k4 : WA.cell? ⟨wr.heap.size, 4, none⟩ = some (.int .i64 mo) := k4
      have HK4 := Lib.hid (And.intro k1 (And.intro k3 k4))
      have HKL := Lib.hid (lt_of_cell k0)
      rw [hWA]
      have HST : Hid (∀ w6, Below WA.drew.heap.size WA.drew w6 → (w6.cell? ⟨w.heap.size, 0, none⟩ = some dv ∧ Key4 w6 wr.heap.size nm kd la mo) ∧ ∀ o, ((w6.alloc o).cell? ⟨w.heap.size, 0, none⟩ = some dv ∧ Key4 (w6.alloc o) wr.heap.size nm kd la mo) ∧ (w6.alloc o).ownsRow w1.heap.size 155 4 dv k (dFlat (ks.take k)) ∧ w1.heap.size ≤ (w6.alloc o).heap.size ∧ ∀ dv' w7, w7.ownsRow w1.heap.size 155 4 dv' (k + 1) (dFlat (ks.take k) ++ dCells ⟨nm, kd, dl, la, mo, le⟩) → (w6.alloc o).grownBy w7 dv.ownBlock →
          (DfIn w (w7.setCell ⟨w.heap.size, 0, none⟩ dv') w.heap.size w1.heap.size dv' hv (ks.take (k + 1)) ls ∧ But w.heap.size w1 (w7.setCell ⟨w.heap.size, 0, none⟩ dv') ∧ (w7.setCell ⟨w.heap.size, 0, none⟩ dv').heap[w5.heap.size]? = some (Obj.cells #[.int .i64 pk, .int .i64 pi, .string pt, .slice x5 nw c5'] 48) ∧ OwnT w.heap.size (w7.setCell ⟨w.heap.size, 0, none⟩ dv') x5 c5' pw) ∧ (∃ u, w7.cell? ⟨w.heap.size, 0, none⟩ = some u) ∧ w7.frozen? ⟨w.heap.size, 0, none⟩ = false ∧ Key4 w7 wr.heap.size nm kd la mo ∧ Key4 (w7.setCell ⟨w.heap.size, 0, none⟩ dv') wr.heap.size nm kd la mo) := Lib.hid fun w6 hb6 => by
        have hb6' := (below_drewN WA 1).trans hb6
        have hk6 := (hb6'.block _ (heap_ltF HAB.out.1)).trans HAB.out.1
        have hi6a := HIA.out.after hb6'
        refine ⟨⟨hi6a.cells.1, key4 hk6⟩, fun o => ?_⟩
        have hi6 := hi6a.after (below_one w6 o)
        have hk6o := ((below_one w6 o).block _ (heap_ltF hk6)).trans hk6
        have hrow := hi6.drow
        rw [HTK.out.2] at hrow
        refine ⟨⟨hi6.cells.1, key4 hk6o⟩, hrow, hi6.base.2, fun dv' w7 h1 h2 => ?_⟩
        have hd := hi6.defs (dv' := dv') (k := ⟨nm, kd, dl, la, mo, le⟩) (by rw [HTK.out.2]; exact h1) h2
        have hbo : Below WA.heap.size WA (w6.alloc o) := hb6'.trans ((below_one w6 o).mono hb6'.size)
        have hv6 := (hbo.block _ (heap_ltF HAB.out.2)).trans HAB.out.2
        have hX7 : w7.heap[w.heap.size]? = some (Obj.cells #[dv, hv] 85) := (h2.block _ (heap_ltF hi6.obj) (fun e => own_ne hi6.drow hi6.obj (by decide) e.symm)).trans hi6.obj
        have hk7 := (h2.block _ (heap_ltF hk6o) (fun e => own_ne hi6.drow hk6o (by decide) e.symm)).trans hk6o
        refine ⟨⟨by rw [HTK.out.1]; exact hd, ?_, hi6.other h2 hv6 (by decide) (by decide), ?_⟩, ⟨_, cell_of_row w7 _ 0 _ _ _ hX7⟩, by simp [World.frozen?, hX7], key4 hk7, key4 (hi6.other h2 hk6o (by decide) (by decide))⟩
        · exact (but_row (HKA.out.then_below hbo) hi6.drow (Nat.le_refl _) h2).setCell 0 dv'
        · have h3 : OwnT w.heap.size (w6.alloc o) x5 c5' pw := ownT_block HWA.out fun g hg => hbo.block g (heap_ltF hg)
          exact ownT_block h3 fun g hg => (hi6.other (u := dv') h2 hg (by decide) (by decide)).trans hg.symm
      clear hWA hba hVA hKA HAB HKA HIA HWA HI5 HK5 HW5 HV5 HKK HLB HK4 HKL
      go_wp2
      refine wp_region_held_drew (S := (fun W => W.cell? ⟨wr.heap.size, 0, none⟩ = some (.string nm) ∧ W.cell? ⟨wr.heap.size, 1, none⟩ = some (.int .i64 kd) ∧ W.cell? ⟨wr.heap.size, 3, none⟩ = some (.int .i64 la) ∧ W.cell? ⟨wr.heap.size, 4, none⟩ = some (.int .i64 mo))) (by kernel_rfl) ⟨k0, k1, k3, k4⟩ (fun hH0 => ?_)
      refine' wpAnyH_take (i := 0) rfl (by kernel_rfl) (by kernel_rfl) (by kernel_rfl) (fun _ _ _ h => h) (Or.inl ⟨by rfl, ?hy1⟩) (by assumption) ?rest1
      case hy1 => (intro w hSw; (try dsimp only at hSw); go_simp; (try with_reducible rfl))
      try simp only [Act.put, List.setIfInBounds_toArray]
      refine' wpAnyH_take (i := 1) rfl (by kernel_rfl) (by kernel_rfl) (by kernel_rfl) (fun _ _ _ h => h) (Or.inl ⟨by rfl, ?hy2⟩) (by assumption) ?rest2
      case hy2 => (intro w hSw; (try dsimp only at hSw); go_simp; (try with_reducible rfl))
      try simp only [Act.put]
      refine' wpAnyH_take (i := 2) rfl (by kernel_rfl) (by kernel_rfl) (by kernel_rfl) (fun _ _ _ h => h) (Or.inl ⟨by rfl, ?hy3⟩) (by assumption) ?rest3
      case hy3 => (intro w hSw; (try dsimp only at hSw); go_simp; (try with_reducible rfl))
      try simp only [Act.put]
      refine' wpAnyH_take (i := 3) rfl (by kernel_rfl) (by kernel_rfl) (by kernel_rfl) (fun _ _ _ h => h) (Or.inl ⟨by rfl, ?hy4⟩) (by assumption) ?rest4
      case hy4 => (intro w hSw; (try dsimp only at hSw); go_simp; (try with_reducible rfl))
      try simp only [Act.put]
      refine' wpAnyH_take (i := 5) rfl (by kernel_rfl) (by kernel_rfl) (by kernel_rfl) (fun _ _ _ h => h) (Or.inl ⟨by rfl, ?hy5⟩) (by assumption) ?rest5
      case hy5 => (intro w hSw; (try dsimp only at hSw); go_simp; (try with_reducible rfl))
      try simp only [Act.put]
      refine' wpAnyH_take (i := 6) rfl (by kernel_rfl) (by kernel_rfl) (by kernel_rfl) (fun _ _ _ h => h) (Or.inl ⟨by rfl, ?hy6⟩) (by assumption) ?rest6
      case hy6 => (intro w hSw; (try dsimp only at hSw); go_simp; (try with_reducible rfl))
      try simp only [Act.put]
      refine' wpAnyH_take (i := 8) rfl (by kernel_rfl) (by kernel_rfl) (by kernel_rfl) (fun _ _ _ h => h) (Or.inl ⟨by rfl, ?hy7⟩) (by assumption) ?rest7
      case hy7 => (intro w hSw; (try dsimp only at hSw); go_simp; (try with_reducible rfl))
      try simp only [Act.put]
      refine' wpAnyH_take (i := 9) rfl (by kernel_rfl) (by kernel_rfl) (by kernel_rfl) (fun _ _ _ h => h) (Or.inl ⟨by rfl, ?hy8⟩) (by assumption) ?rest8
      case hy8 => (intro w hSw; (try dsimp only at hSw); go_simp; (try with_reducible rfl))
      try simp only [Act.put]
      refine' wpAnyH_take (i := 10) rfl (by kernel_rfl) (by kernel_rfl) (by kernel_rfl) (fun _ _ _ h => h) (Or.inl ⟨by rfl, ?hy9⟩) (by assumption) ?rest9
      case hy9 => (intro w hSw; (try dsimp only at hSw); go_simp; (try with_reducible rfl))
      try simp only [Act.put]
      refine' wpAnyH_take (i := 11) rfl (by kernel_rfl) (by kernel_rfl) (by kernel_rfl) (fun _ _ _ h => h) (Or.inl ⟨by rfl, ?hy10⟩) (by assumption) ?rest10
      case hy10 => (intro w hSw; (try dsimp only at hSw); go_simp; (try with_reducible rfl))
      try simp only [Act.put]
      refine' wpAnyH_take (i := 12) rfl (by kernel_rfl) (by kernel_rfl) (by kernel_rfl) (fun _ _ _ h => h) (Or.inl ⟨by rfl, ?hy11⟩) (by assumption) ?rest11
      case hy11 => (intro w hSw; (try dsimp only at hSw); go_simp; (try with_reducible rfl))
      try simp only [Act.put]
      refine' wpAnyH_take (i := 13) rfl (by kernel_rfl) (by kernel_rfl) (by kernel_rfl) (fun _ _ _ h => h) (Or.inl ⟨by rfl, ?hy12⟩) (by assumption) ?rest12
      case hy12 => (intro w hSw; (try dsimp only at hSw); go_simp; (try with_reducible rfl))
      try simp only [Act.put]
      refine wpAnyH_ready (rs := [4, 7]) (by kernel_rfl) (by simp) ?_
      refine AllReadyH.cons rfl (fun K hK => ?_) ?_
      · skip
        go_simp
        refine hK.out _ _ ?_ (fun hH1 => ?_)
        · (try dsimp only); (first | exact ⟨k0, k1, k3, k4⟩ | exact KS6.out | exact KSa.out | exact KS7.out | exact KS8.out)
        clear hK K
        try simp only [Act.put, List.setIfInBounds_toArray, List.set_cons_zero, List.set_cons_succ]
        refine wpAnyH_ready (rs := [7]) (by kernel_rfl) (by simp) ?_
        refine AllReadyH.cons rfl (fun K hK => ?_) ?_
        · skip
          go_simp
          (with_reducible refine (HC.out _).mono ?_)
          rintro e w6 ⟨rfl, hb6⟩
          obtain ⟨⟨a6, k6⟩, h6⟩ := HST.out w6 hb6
          obtain ⟨⟨aa, ka⟩, h6b⟩ := h6 (Obj.cells #[.string nm, .int .i64 kd, .int .i64 la, .int .i64 mo] 155)
          have KS6 := Lib.hid k6
          have KSa := Lib.hid ka
          have H6 := Lib.hid h6b
          have CN6 : Hid (∀ (j : Nat) (u : Value), (dCells ⟨nm, kd, dl, la, mo, le⟩)[j]? = some u → (w6.alloc (Obj.cells #[.string nm, .int .i64 kd, .int .i64 la, .int .i64 mo] 155)).cell? ⟨w6.heap.size, j, none⟩ = some u) := Lib.hid (cells_new w6 (dCells ⟨nm, kd, dl, la, mo, le⟩) _)
          clear hb6 k6 ka h6 h6b
          dsimp only
          refine hK.out _ _ ?_ (fun hH2 => ?_)
          · (try dsimp only); (first | exact ⟨k0, k1, k3, k4⟩ | exact KS6.out | exact KSa.out | exact KS7.out | exact KS8.out)
          clear hK K
          try simp only [Act.put, List.setIfInBounds_toArray, List.set_cons_zero, List.set_cons_succ]
          refine' wpAnyH_take (i := 14) rfl (by kernel_rfl) (by kernel_rfl) (by kernel_rfl) (fun _ _ _ h => h) (Or.inl ⟨by rfl, ?hy13⟩) (by assumption) ?rest13
          case hy13 => (intro w hSw; (try dsimp only at hSw); go_simp; (try with_reducible rfl))
          try simp only [Act.put, List.setIfInBounds_toArray]
          refine wpAnyH_ready (rs := [15]) (by kernel_rfl) (by simp) ?_
          refine AllReadyH.cons rfl (fun K hK => ?_) ?_
          · skip
            go_simp
            refine hK.out _ _ ?_ (fun hH3 => ?_)
            · (try dsimp only); (first | exact ⟨k0, k1, k3, k4⟩ | exact KS6.out | exact KSa.out | exact KS7.out | exact KS8.out)
            clear hK K
            try simp only [Act.put, List.setIfInBounds_toArray, List.set_cons_zero, List.set_cons_succ]
            refine wpAnyH_ready (rs := [16]) (by kernel_rfl) (by simp) ?_
            refine AllReadyH.cons rfl (fun K hK => ?_) ?_
            · skip
              refine stepD (W := w6.alloc (Obj.cells #[.string nm, .int .i64 kd, .int .i64 la, .int .i64 mo] 155)) rfl _ _ rfl H6.out.1 H6.out.2.1 (by omega) ⟨nm, kd, dl, la, mo, le⟩ rfl rfl CN6.out ?_
              intro y7 cap7 w7 g1 g2 g3
              obtain ⟨D1, ⟨u0, D5⟩, D6, k7, k8⟩ := H6.out.2.2 _ w7 g1 g2
              have HD := Lib.hid D1
              have KS7 := Lib.hid k7
              have KS8 := Lib.hid k8
              clear D1 k7 k8 g1 g2 g3
              refine hK.out _ _ ?_ (fun hH4 => ?_)
              · (try dsimp only); (first | exact ⟨k0, k1, k3, k4⟩ | exact KS6.out | exact KSa.out | exact KS7.out | exact KS8.out)
              clear hK K
              try simp only [Act.put, List.setIfInBounds_toArray]
              refine' wpAnyH_take (i := 17) rfl (by kernel_rfl) (by kernel_rfl) (by kernel_rfl) (fun _ _ _ h => h) (Or.inl ⟨by rfl, ?hy14⟩) (by assumption) ?rest14
              case hy14 => (intro w hSw; (try dsimp only at hSw); go_simp; (try with_reducible rfl))
              try simp only [Act.put]
              refine' wpAnyH_take (i := 18) rfl (by kernel_rfl) (by kernel_rfl) (by kernel_rfl) (fun _ _ _ h => h) (Or.inl ⟨by rfl, ?hy15⟩) (by assumption) ?rest15
              case hy15 => (intro w hSw; (try dsimp only at hSw); go_simp; (try with_reducible rfl))
              try simp only [Act.put]
              refine wpAnyH_ready (rs := [19]) (by kernel_rfl) (by simp) ?_
              refine AllReadyH.cons rfl (fun K hK => ?_) ?_
              · skip
                go_simp
                refine hK.out _ _ ?_ (fun hH5 => ?_)
                · (try dsimp only); (first | exact ⟨k0, k1, k3, k4⟩ | exact KS6.out | exact KSa.out | exact KS7.out | exact KS8.out)
                clear hK K
                try simp only [Act.put, List.setIfInBounds_toArray, List.set_cons_zero, List.set_cons_succ]
                refine wpAnyH_done (by kernel_rfl) ?_ _
                obtain ⟨W8, hW8⟩ : ∃ W, w7.setCell ⟨w.heap.size, 0, none⟩ (.slice (some ⟨y7, 0, none⟩) (k + 1) cap7) = W := ⟨_, rfl⟩
                have HD8 := HD.out
                rw [hW8] at HD8
                obtain ⟨hi8, hb8, hv8, ho8⟩ := HD8
                have HST2 : Hid (∀ o, ((W8.alloc o).cell? ⟨w.heap.size, 1, none⟩ = some hv ∧ Val4 (W8.alloc o).drew w5.heap.size pk pi pt (.slice x5 nw c5')) ∧ (W8.alloc o).drew.ownsRow w1.heap.size 112 5 hv k (hFlat ls) ∧ w1.heap.size ≤ (W8.alloc o).drew.heap.size ∧ ∀ hv' w10, w10.ownsRow w1.heap.size 112 5 hv' (k + 1) (hFlat ls ++ hCells ⟨⟨nm, ⟨pk, pi, pt, pw⟩, 0⟩, x5, c5'⟩) → (W8.alloc o).drew.grownBy w10 hv.ownBlock →
                    (DfIn w (w10.setCell ⟨w.heap.size, 1, none⟩ hv') w.heap.size w1.heap.size (.slice (some ⟨y7, 0, none⟩) (k + 1) cap7) hv' (ks.take (k + 1)) (ls ++ [⟨⟨nm, ⟨pk, pi, pt, pw⟩, 0⟩, x5, c5'⟩]) ∧ But w.heap.size w1 (w10.setCell ⟨w.heap.size, 1, none⟩ hv')) ∧ (∃ u, w10.cell? ⟨w.heap.size, 1, none⟩ = some u) ∧ w10.frozen? ⟨w.heap.size, 1, none⟩ = false ∧ Val4 w10 w5.heap.size pk pi pt (.slice x5 nw c5') ∧ Val4 (w10.setCell ⟨w.heap.size, 1, none⟩ hv') w5.heap.size pk pi pt (.slice x5 nw c5')) := Lib.hid fun o => by
                  have hbo : Below W8.heap.size W8 (W8.alloc o).drew := (below_drewN W8 1).trans (below_one W8.drew o)
                  have hi9 := hi8.after hbo
                  have hv9 := (hbo.block _ (heap_ltF hv8)).trans hv8
                  have hrow := hi9.hrow
                  rw [HLL.out] at hrow
                  refine ⟨⟨hi9.cells.2.1, val4 hv9⟩, hrow, hi9.base.2, fun hv' w10 h1 h2 => ?_⟩
                  have hd := hi9.held (hv' := hv') (m0 := ⟨⟨nm, ⟨pk, pi, pt, pw⟩, 0⟩, x5, c5'⟩) (ownT_block ho8 fun g hg => hbo.block g (heap_ltF hg)) (by rw [HLL.out]; exact h1) h2
                  have hX10 : w10.heap[w.heap.size]? = some (Obj.cells #[.slice (some ⟨y7, 0, none⟩) (k + 1) cap7, hv] 85) := (h2.block _ (heap_ltF hi9.obj) (fun e => own_ne hi9.hrow hi9.obj (by decide) e.symm)).trans hi9.obj
                  have hv10 := (h2.block _ (heap_ltF hv9) (fun e => own_ne hi9.hrow hv9 (by decide) e.symm)).trans hv9
                  refine ⟨⟨hd, (but_row (hb8.then_below hbo) hi9.hrow (Nat.le_refl _) h2).setCell 1 hv'⟩, ⟨_, cell_of_row w10 _ 1 _ _ _ hX10⟩, by simp [World.frozen?, hX10], val4 hv10, val4 (hi9.otherH h2 hv9 (by decide) (by decide))⟩
                obtain ⟨v0, v1, v2, v3⟩ := val4 hv8
                obtain ⟨_, x1, _⟩ := hi8.cells
                obtain ⟨⟨xa, va⟩, H9a⟩ := HST2.out (Obj.cells #[.int .i64 pk, .int .i64 pi, .string pt, .slice x5 nw c5', .int .i64 0] 112)
                have KVa := Lib.hid va
                have H9 := Lib.hid H9a
                have CN9 : Hid (∀ (j : Nat) (u : Value), (hCells ⟨⟨nm, ⟨pk, pi, pt, pw⟩, 0⟩, x5, c5'⟩)[j]? = some u → (W8.alloc (Obj.cells #[.int .i64 pk, .int .i64 pi, .string pt, .slice x5 nw c5', .int .i64 0] 112)).drew.cell? ⟨W8.heap.size, j, none⟩ = some u) := Lib.hid (by
                  have e : hCells ⟨⟨nm, ⟨pk, pi, pt, pw⟩, 0⟩, x5, c5'⟩ = [.int .i64 pk, .int .i64 pi, .string pt, .slice x5 nw c5', .int .i64 0] := by unfold hCells; rw [HNW.out]
                  rw [e]
                  exact cells_new W8 _ _)
                rw [hW8]
                clear HD hW8 hi8 hb8 hv8 ho8 HST2 va H9a KS6 KSa KS7 KS8 H6 CN6 HST HC
                go_wp2
                go_region_law (first
                  | (refine stepH (W := (W8.alloc (Obj.cells #[.int .i64 pk, .int .i64 pi, .string pt, .slice x5 nw c5', .int .i64 0] 112)).drew) rfl _ _ rfl H9.out.1 H9.out.2.1 (by omega) ⟨⟨nm, ⟨pk, pi, pt, pw⟩, 0⟩, x5, c5'⟩ rfl rfl CN9.out ?_
                     intro y10 cap10 w10 g1 g2 g3
                     obtain ⟨D1, ⟨u1, D5⟩, D6, k7, k8⟩ := H9.out.2.2 _ w10 g1 g2
                     have HD := Lib.hid D1
                     have KV7 := Lib.hid k7
                     have KV8 := Lib.hid k8
                     clear D1 k7 k8 g1 g2 g3)
                  | fail)
                all_goals
                  go_wp2
                  go_roundw
                  case rel =>
                    refine ⟨k + 1, _, _, ls ++ [⟨⟨nm, ⟨pk, pi, pt, pw⟩, 0⟩, x5, c5'⟩], by go_num, by omega, by rw [List.length_append, HLL.out]; rfl, ?_, Lib.hid HD.out.1, Lib.hid HD.out.2⟩
                    rw [List.map_append, HLX.out, HTK.out.1, List.map_append]
                    congr 1
                    show [_] = [_]
                    unfold dfltS
                    rw [HPV.out]
                  case measure => simp [intOf]; omega

              exact AllReadyH.nil
            exact AllReadyH.nil
          exact AllReadyH.nil
        exact AllReadyH.nil
      refine AllReadyH.cons rfl (fun K hK => ?_) ?_
      · skip
        go_simp
        (with_reducible refine (HC.out _).mono ?_)
        rintro e w6 ⟨rfl, hb6⟩
        obtain ⟨⟨a6, k6⟩, h6⟩ := HST.out w6 hb6
        obtain ⟨⟨aa, ka⟩, h6b⟩ := h6 (Obj.cells #[.string nm, .int .i64 kd, .int .i64 la, .int .i64 mo] 155)
        have KS6 := Lib.hid k6
        have KSa := Lib.hid ka
        have H6 := Lib.hid h6b
        have CN6 : Hid (∀ (j : Nat) (u : Value), (dCells ⟨nm, kd, dl, la, mo, le⟩)[j]? = some u → (w6.alloc (Obj.cells #[.string nm, .int .i64 kd, .int .i64 la, .int .i64 mo] 155)).cell? ⟨w6.heap.size, j, none⟩ = some u) := Lib.hid (cells_new w6 (dCells ⟨nm, kd, dl, la, mo, le⟩) _)
        clear hb6 k6 ka h6 h6b
        dsimp only
        refine hK.out _ _ ?_ (fun hH6 => ?_)
        · (try dsimp only); (first | exact ⟨k0, k1, k3, k4⟩ | exact KS6.out | exact KSa.out | exact KS7.out | exact KS8.out)
        clear hK K
        try simp only [Act.put, List.setIfInBounds_toArray, List.set_cons_zero, List.set_cons_succ]
        refine' wpAnyH_take (i := 14) rfl (by kernel_rfl) (by kernel_rfl) (by kernel_rfl) (fun _ _ _ h => h) (Or.inl ⟨by rfl, ?hy16⟩) (by assumption) ?rest16
        case hy16 => (intro w hSw; (try dsimp only at hSw); go_simp; (try with_reducible rfl))
        try simp only [Act.put, List.setIfInBounds_toArray]
        refine wpAnyH_ready (rs := [4, 15]) (by kernel_rfl) (by simp) ?_
        refine AllReadyH.cons rfl (fun K hK => ?_) ?_
        · skip
          go_simp
          refine hK.out _ _ ?_ (fun hH7 => ?_)
          · (try dsimp only); (first | exact ⟨k0, k1, k3, k4⟩ | exact KS6.out | exact KSa.out | exact KS7.out | exact KS8.out)
          clear hK K
          try simp only [Act.put, List.setIfInBounds_toArray, List.set_cons_zero, List.set_cons_succ]
          refine wpAnyH_ready (rs := [15]) (by kernel_rfl) (by simp) ?_
          refine AllReadyH.cons rfl (fun K hK => ?_) ?_
          · skip
            go_simp
            refine hK.out _ _ ?_ (fun hH8 => ?_)
            · (try dsimp only); (first | exact ⟨k0, k1, k3, k4⟩ | exact KS6.out | exact KSa.out | exact KS7.out | exact KS8.out)
            clear hK K
            try simp only [Act.put, List.setIfInBounds_toArray, List.set_cons_zero, List.set_cons_succ]
            refine wpAnyH_ready (rs := [16]) (by kernel_rfl) (by simp) ?_
            refine AllReadyH.cons rfl (fun K hK => ?_) ?_
            · skip
              refine stepD (W := w6.alloc (Obj.cells #[.string nm, .int .i64 kd, .int .i64 la, .int .i64 mo] 155)) rfl _ _ rfl H6.out.1 H6.out.2.1 (by omega) ⟨nm, kd, dl, la, mo, le⟩ rfl rfl CN6.out ?_
              intro y7 cap7 w7 g1 g2 g3
              obtain ⟨D1, ⟨u0, D5⟩, D6, k7, k8⟩ := H6.out.2.2 _ w7 g1 g2
              have HD := Lib.hid D1
              have KS7 := Lib.hid k7
              have KS8 := Lib.hid k8
              clear D1 k7 k8 g1 g2 g3
              refine hK.out _ _ ?_ (fun hH9 => ?_)
              · (try dsimp only); (first | exact ⟨k0, k1, k3, k4⟩ | exact KS6.out | exact KSa.out | exact KS7.out | exact KS8.out)
              clear hK K
              try simp only [Act.put, List.setIfInBounds_toArray]
              refine' wpAnyH_take (i := 17) rfl (by kernel_rfl) (by kernel_rfl) (by kernel_rfl) (fun _ _ _ h => h) (Or.inl ⟨by rfl, ?hy17⟩) (by assumption) ?rest17
              case hy17 => (intro w hSw; (try dsimp only at hSw); go_simp; (try with_reducible rfl))
              try simp only [Act.put]
              refine' wpAnyH_take (i := 18) rfl (by kernel_rfl) (by kernel_rfl) (by kernel_rfl) (fun _ _ _ h => h) (Or.inl ⟨by rfl, ?hy18⟩) (by assumption) ?rest18
              case hy18 => (intro w hSw; (try dsimp only at hSw); go_simp; (try with_reducible rfl))
              try simp only [Act.put]
              refine wpAnyH_ready (rs := [19]) (by kernel_rfl) (by simp) ?_
              refine AllReadyH.cons rfl (fun K hK => ?_) ?_
              · skip
                go_simp
                refine hK.out _ _ ?_ (fun hH10 => ?_)
                · (try dsimp only); (first | exact ⟨k0, k1, k3, k4⟩ | exact KS6.out | exact KSa.out | exact KS7.out | exact KS8.out)
                clear hK K
                try simp only [Act.put, List.setIfInBounds_toArray, List.set_cons_zero, List.set_cons_succ]
                refine wpAnyH_done (by kernel_rfl) ?_ _
                obtain ⟨W8, hW8⟩ : ∃ W, w7.setCell ⟨w.heap.size, 0, none⟩ (.slice (some ⟨y7, 0, none⟩) (k + 1) cap7) = W := ⟨_, rfl⟩
                have HD8 := HD.out
                rw [hW8] at HD8
                obtain ⟨hi8, hb8, hv8, ho8⟩ := HD8
                have HST2 : Hid (∀ o, ((W8.alloc o).cell? ⟨w.heap.size, 1, none⟩ = some hv ∧ Val4 (W8.alloc o).drew w5.heap.size pk pi pt (.slice x5 nw c5')) ∧ (W8.alloc o).drew.ownsRow w1.heap.size 112 5 hv k (hFlat ls) ∧ w1.heap.size ≤ (W8.alloc o).drew.heap.size ∧ ∀ hv' w10, w10.ownsRow w1.heap.size 112 5 hv' (k + 1) (hFlat ls ++ hCells ⟨⟨nm, ⟨pk, pi, pt, pw⟩, 0⟩, x5, c5'⟩) → (W8.alloc o).drew.grownBy w10 hv.ownBlock →
                    (DfIn w (w10.setCell ⟨w.heap.size, 1, none⟩ hv') w.heap.size w1.heap.size (.slice (some ⟨y7, 0, none⟩) (k + 1) cap7) hv' (ks.take (k + 1)) (ls ++ [⟨⟨nm, ⟨pk, pi, pt, pw⟩, 0⟩, x5, c5'⟩]) ∧ But w.heap.size w1 (w10.setCell ⟨w.heap.size, 1, none⟩ hv')) ∧ (∃ u, w10.cell? ⟨w.heap.size, 1, none⟩ = some u) ∧ w10.frozen? ⟨w.heap.size, 1, none⟩ = false ∧ Val4 w10 w5.heap.size pk pi pt (.slice x5 nw c5') ∧ Val4 (w10.setCell ⟨w.heap.size, 1, none⟩ hv') w5.heap.size pk pi pt (.slice x5 nw c5')) := Lib.hid fun o => by
                  have hbo : Below W8.heap.size W8 (W8.alloc o).drew := (below_drewN W8 1).trans (below_one W8.drew o)
                  have hi9 := hi8.after hbo
                  have hv9 := (hbo.block _ (heap_ltF hv8)).trans hv8
                  have hrow := hi9.hrow
                  rw [HLL.out] at hrow
                  refine ⟨⟨hi9.cells.2.1, val4 hv9⟩, hrow, hi9.base.2, fun hv' w10 h1 h2 => ?_⟩
                  have hd := hi9.held (hv' := hv') (m0 := ⟨⟨nm, ⟨pk, pi, pt, pw⟩, 0⟩, x5, c5'⟩) (ownT_block ho8 fun g hg => hbo.block g (heap_ltF hg)) (by rw [HLL.out]; exact h1) h2
                  have hX10 : w10.heap[w.heap.size]? = some (Obj.cells #[.slice (some ⟨y7, 0, none⟩) (k + 1) cap7, hv] 85) := (h2.block _ (heap_ltF hi9.obj) (fun e => own_ne hi9.hrow hi9.obj (by decide) e.symm)).trans hi9.obj
                  have hv10 := (h2.block _ (heap_ltF hv9) (fun e => own_ne hi9.hrow hv9 (by decide) e.symm)).trans hv9
                  refine ⟨⟨hd, (but_row (hb8.then_below hbo) hi9.hrow (Nat.le_refl _) h2).setCell 1 hv'⟩, ⟨_, cell_of_row w10 _ 1 _ _ _ hX10⟩, by simp [World.frozen?, hX10], val4 hv10, val4 (hi9.otherH h2 hv9 (by decide) (by decide))⟩
                obtain ⟨v0, v1, v2, v3⟩ := val4 hv8
                obtain ⟨_, x1, _⟩ := hi8.cells
                obtain ⟨⟨xa, va⟩, H9a⟩ := HST2.out (Obj.cells #[.int .i64 pk, .int .i64 pi, .string pt, .slice x5 nw c5', .int .i64 0] 112)
                have KVa := Lib.hid va
                have H9 := Lib.hid H9a
                have CN9 : Hid (∀ (j : Nat) (u : Value), (hCells ⟨⟨nm, ⟨pk, pi, pt, pw⟩, 0⟩, x5, c5'⟩)[j]? = some u → (W8.alloc (Obj.cells #[.int .i64 pk, .int .i64 pi, .string pt, .slice x5 nw c5', .int .i64 0] 112)).drew.cell? ⟨W8.heap.size, j, none⟩ = some u) := Lib.hid (by
                  have e : hCells ⟨⟨nm, ⟨pk, pi, pt, pw⟩, 0⟩, x5, c5'⟩ = [.int .i64 pk, .int .i64 pi, .string pt, .slice x5 nw c5', .int .i64 0] := by unfold hCells; rw [HNW.out]
                  rw [e]
                  exact cells_new W8 _ _)
                rw [hW8]
                clear HD hW8 hi8 hb8 hv8 ho8 HST2 va H9a KS6 KSa KS7 KS8 H6 CN6 HST HC
                go_wp2
                go_region_law (first
                  | (refine stepH (W := (W8.alloc (Obj.cells #[.int .i64 pk, .int .i64 pi, .string pt, .slice x5 nw c5', .int .i64 0] 112)).drew) rfl _ _ rfl H9.out.1 H9.out.2.1 (by omega) ⟨⟨nm, ⟨pk, pi, pt, pw⟩, 0⟩, x5, c5'⟩ rfl rfl CN9.out ?_
                     intro y10 cap10 w10 g1 g2 g3
                     obtain ⟨D1, ⟨u1, D5⟩, D6, k7, k8⟩ := H9.out.2.2 _ w10 g1 g2
                     have HD := Lib.hid D1
                     have KV7 := Lib.hid k7
                     have KV8 := Lib.hid k8
                     clear D1 k7 k8 g1 g2 g3)
                  | fail)
                all_goals
                  go_wp2
                  go_roundw
                  case rel =>
                    refine ⟨k + 1, _, _, ls ++ [⟨⟨nm, ⟨pk, pi, pt, pw⟩, 0⟩, x5, c5'⟩], by go_num, by omega, by rw [List.length_append, HLL.out]; rfl, ?_, Lib.hid HD.out.1, Lib.hid HD.out.2⟩
                    rw [List.map_append, HLX.out, HTK.out.1, List.map_append]
                    congr 1
                    show [_] = [_]
                    unfold dfltS
                    rw [HPV.out]
                  case measure => simp [intOf]; omega

              exact AllReadyH.nil
            exact AllReadyH.nil
          exact AllReadyH.nil
        refine AllReadyH.cons rfl (fun K hK => ?_) ?_
        · skip
          go_simp
          refine hK.out _ _ ?_ (fun hH11 => ?_)
          · (try dsimp only); (first | exact ⟨k0, k1, k3, k4⟩ | exact KS6.out | exact KSa.out | exact KS7.out | exact KS8.out)
          clear hK K
          try simp only [Act.put, List.setIfInBounds_toArray, List.set_cons_zero, List.set_cons_succ]
          refine wpAnyH_ready (rs := [4]) (by kernel_rfl) (by simp) ?_
          refine AllReadyH.cons rfl (fun K hK => ?_) ?_
          · skip
            go_simp
            refine hK.out _ _ ?_ (fun hH12 => ?_)
            · (try dsimp only); (first | exact ⟨k0, k1, k3, k4⟩ | exact KS6.out | exact KSa.out | exact KS7.out | exact KS8.out)
            clear hK K
            try simp only [Act.put, List.setIfInBounds_toArray, List.set_cons_zero, List.set_cons_succ]
            refine wpAnyH_ready (rs := [16]) (by kernel_rfl) (by simp) ?_
            refine AllReadyH.cons rfl (fun K hK => ?_) ?_
            · skip
              refine stepD (W := w6.alloc (Obj.cells #[.string nm, .int .i64 kd, .int .i64 la, .int .i64 mo] 155)) rfl _ _ rfl H6.out.1 H6.out.2.1 (by omega) ⟨nm, kd, dl, la, mo, le⟩ rfl rfl CN6.out ?_
              intro y7 cap7 w7 g1 g2 g3
              obtain ⟨D1, ⟨u0, D5⟩, D6, k7, k8⟩ := H6.out.2.2 _ w7 g1 g2
              have HD := Lib.hid D1
              have KS7 := Lib.hid k7
              have KS8 := Lib.hid k8
              clear D1 k7 k8 g1 g2 g3
              refine hK.out _ _ ?_ (fun hH13 => ?_)
              · (try dsimp only); (first | exact ⟨k0, k1, k3, k4⟩ | exact KS6.out | exact KSa.out | exact KS7.out | exact KS8.out)
              clear hK K
              try simp only [Act.put, List.setIfInBounds_toArray]
              refine' wpAnyH_take (i := 17) rfl (by kernel_rfl) (by kernel_rfl) (by kernel_rfl) (fun _ _ _ h => h) (Or.inl ⟨by rfl, ?hy19⟩) (by assumption) ?rest19
              case hy19 => (intro w hSw; (try dsimp only at hSw); go_simp; (try with_reducible rfl))
              try simp only [Act.put]
              refine' wpAnyH_take (i := 18) rfl (by kernel_rfl) (by kernel_rfl) (by kernel_rfl) (fun _ _ _ h => h) (Or.inl ⟨by rfl, ?hy20⟩) (by assumption) ?rest20
              case hy20 => (intro w hSw; (try dsimp only at hSw); go_simp; (try with_reducible rfl))
              try simp only [Act.put]
              refine wpAnyH_ready (rs := [19]) (by kernel_rfl) (by simp) ?_
              refine AllReadyH.cons rfl (fun K hK => ?_) ?_
              · skip
                go_simp
                refine hK.out _ _ ?_ (fun hH14 => ?_)
                · (try dsimp only); (first | exact ⟨k0, k1, k3, k4⟩ | exact KS6.out | exact KSa.out | exact KS7.out | exact KS8.out)
                clear hK K
                try simp only [Act.put, List.setIfInBounds_toArray, List.set_cons_zero, List.set_cons_succ]
                refine wpAnyH_done (by kernel_rfl) ?_ _
                obtain ⟨W8, hW8⟩ : ∃ W, w7.setCell ⟨w.heap.size, 0, none⟩ (.slice (some ⟨y7, 0, none⟩) (k + 1) cap7) = W := ⟨_, rfl⟩
                have HD8 := HD.out
                rw [hW8] at HD8
                obtain ⟨hi8, hb8, hv8, ho8⟩ := HD8
                have HST2 : Hid (∀ o, ((W8.alloc o).cell? ⟨w.heap.size, 1, none⟩ = some hv ∧ Val4 (W8.alloc o).drew w5.heap.size pk pi pt (.slice x5 nw c5')) ∧ (W8.alloc o).drew.ownsRow w1.heap.size 112 5 hv k (hFlat ls) ∧ w1.heap.size ≤ (W8.alloc o).drew.heap.size ∧ ∀ hv' w10, w10.ownsRow w1.heap.size 112 5 hv' (k + 1) (hFlat ls ++ hCells ⟨⟨nm, ⟨pk, pi, pt, pw⟩, 0⟩, x5, c5'⟩) → (W8.alloc o).drew.grownBy w10 hv.ownBlock →
                    (DfIn w (w10.setCell ⟨w.heap.size, 1, none⟩ hv') w.heap.size w1.heap.size (.slice (some ⟨y7, 0, none⟩) (k + 1) cap7) hv' (ks.take (k + 1)) (ls ++ [⟨⟨nm, ⟨pk, pi, pt, pw⟩, 0⟩, x5, c5'⟩]) ∧ But w.heap.size w1 (w10.setCell ⟨w.heap.size, 1, none⟩ hv')) ∧ (∃ u, w10.cell? ⟨w.heap.size, 1, none⟩ = some u) ∧ w10.frozen? ⟨w.heap.size, 1, none⟩ = false ∧ Val4 w10 w5.heap.size pk pi pt (.slice x5 nw c5') ∧ Val4 (w10.setCell ⟨w.heap.size, 1, none⟩ hv') w5.heap.size pk pi pt (.slice x5 nw c5')) := Lib.hid fun o => by
                  have hbo : Below W8.heap.size W8 (W8.alloc o).drew := (below_drewN W8 1).trans (below_one W8.drew o)
                  have hi9 := hi8.after hbo
                  have hv9 := (hbo.block _ (heap_ltF hv8)).trans hv8
                  have hrow := hi9.hrow
                  rw [HLL.out] at hrow
                  refine ⟨⟨hi9.cells.2.1, val4 hv9⟩, hrow, hi9.base.2, fun hv' w10 h1 h2 => ?_⟩
                  have hd := hi9.held (hv' := hv') (m0 := ⟨⟨nm, ⟨pk, pi, pt, pw⟩, 0⟩, x5, c5'⟩) (ownT_block ho8 fun g hg => hbo.block g (heap_ltF hg)) (by rw [HLL.out]; exact h1) h2
                  have hX10 : w10.heap[w.heap.size]? = some (Obj.cells #[.slice (some ⟨y7, 0, none⟩) (k + 1) cap7, hv] 85) := (h2.block _ (heap_ltF hi9.obj) (fun e => own_ne hi9.hrow hi9.obj (by decide) e.symm)).trans hi9.obj
                  have hv10 := (h2.block _ (heap_ltF hv9) (fun e => own_ne hi9.hrow hv9 (by decide) e.symm)).trans hv9
                  refine ⟨⟨hd, (but_row (hb8.then_below hbo) hi9.hrow (Nat.le_refl _) h2).setCell 1 hv'⟩, ⟨_, cell_of_row w10 _ 1 _ _ _ hX10⟩, by simp [World.frozen?, hX10], val4 hv10, val4 (hi9.otherH h2 hv9 (by decide) (by decide))⟩
                obtain ⟨v0, v1, v2, v3⟩ := val4 hv8
                obtain ⟨_, x1, _⟩ := hi8.cells
                obtain ⟨⟨xa, va⟩, H9a⟩ := HST2.out (Obj.cells #[.int .i64 pk, .int .i64 pi, .string pt, .slice x5 nw c5', .int .i64 0] 112)
                have KVa := Lib.hid va
                have H9 := Lib.hid H9a
                have CN9 : Hid (∀ (j : Nat) (u : Value), (hCells ⟨⟨nm, ⟨pk, pi, pt, pw⟩, 0⟩, x5, c5'⟩)[j]? = some u → (W8.alloc (Obj.cells #[.int .i64 pk, .int .i64 pi, .string pt, .slice x5 nw c5', .int .i64 0] 112)).drew.cell? ⟨W8.heap.size, j, none⟩ = some u) := Lib.hid (by
                  have e : hCells ⟨⟨nm, ⟨pk, pi, pt, pw⟩, 0⟩, x5, c5'⟩ = [.int .i64 pk, .int .i64 pi, .string pt, .slice x5 nw c5', .int .i64 0] := by unfold hCells; rw [HNW.out]
                  rw [e]
                  exact cells_new W8 _ _)
                rw [hW8]
                clear HD hW8 hi8 hb8 hv8 ho8 HST2 va H9a KS6 KSa KS7 KS8 H6 CN6 HST HC
                go_wp2
                go_region_law (first
                  | (refine stepH (W := (W8.alloc (Obj.cells #[.int .i64 pk, .int .i64 pi, .string pt, .slice x5 nw c5', .int .i64 0] 112)).drew) rfl _ _ rfl H9.out.1 H9.out.2.1 (by omega) ⟨⟨nm, ⟨pk, pi, pt, pw⟩, 0⟩, x5, c5'⟩ rfl rfl CN9.out ?_
                     intro y10 cap10 w10 g1 g2 g3
                     obtain ⟨D1, ⟨u1, D5⟩, D6, k7, k8⟩ := H9.out.2.2 _ w10 g1 g2
                     have HD := Lib.hid D1
                     have KV7 := Lib.hid k7
                     have KV8 := Lib.hid k8
                     clear D1 k7 k8 g1 g2 g3)
                  | fail)
                all_goals
                  go_wp2
                  go_roundw
                  case rel =>
                    refine ⟨k + 1, _, _, ls ++ [⟨⟨nm, ⟨pk, pi, pt, pw⟩, 0⟩, x5, c5'⟩], by go_num, by omega, by rw [List.length_append, HLL.out]; rfl, ?_, Lib.hid HD.out.1, Lib.hid HD.out.2⟩
                    rw [List.map_append, HLX.out, HTK.out.1, List.map_append]
                    congr 1
                    show [_] = [_]
                    unfold dfltS
                    rw [HPV.out]
                  case measure => simp [intOf]; omega

              exact AllReadyH.nil
            exact AllReadyH.nil
          exact AllReadyH.nil
        exact AllReadyH.nil
      exact AllReadyH.nil
    · obtain rfl : k = n := by omega
      have q2 : ¬ (k : Int) < k := by omega
      have HE : Hid (DfIn w wr w.heap.size w1.heap.size dv hv ks ls ∧ ls.map (·.x) = ks.map dfltS) := Lib.hid (by
        have h1 := HI.out
        have h2 := HLX.out
        rw [List.take_of_length_le (by rw [HN.out]; exact Nat.le_refl _)] at h1 h2
        exact ⟨h1, h2⟩)
      clear HI HK HLX HLL HPA HCL HN HKB
      go_wp2
      go_ret
      exact ⟨dv, hv, ls, rfl, ⟨_, HE.out.1⟩, HE.out.2⟩
end Go.Proofs.YtopghlnoklajkaaGreatDoor
