/-
  FlagReader.
-/
import Derived.Test.YtbgoooljkdjjhaaGreatDoorQFlagSets
namespace Go.Proofs.YtbgoooljkdjjhaaGreatDoor
open Go.ChangeShapes Go.WideShapes Go.ChangeAt Go.RowKit

/-- Where a reader lies, and what it reads. -/
structure RB where
  R : Nat
  A : Nat
  N : Nat
  S : Nat
  x : Option Addr
  c : Nat
  args : List ByteArray
/-- How far it is, and what it has. -/
structure RS where
  k : Nat
  gv : Value
  rv : Value
  gs : List GivV
  rs : List ByteArray
  hp : Bool
def takeF (b : RB) : Value := .func (.func 72) #[] #[.pointer (some ⟨b.N, 0, none⟩), .pointer (some ⟨b.A, 0, none⟩)]
structure RdF (B : Nat) (b : RB) (w : World) (s : RS) : Prop where
  oR : w.heap[b.R]? = some (Obj.cells #[.pointer (some ⟨b.S, 0, none⟩), takeF b, s.gv, s.rv, .bool s.hp] 87 (0, 0))
  oN : w.heap[b.N]? = some (Obj.cells #[.int .i64 s.k] 3 (0, 0))
  oA : w.heap[b.A]? = some (Obj.cells #[.slice b.x b.args.length b.c] 33 (0, 0))
  og : w.ownsRow B 27 3 s.gv s.gs.length (gFlat s.gs)
  orr : w.ownsRow B 9 1 s.rv s.rs.length (s.rs.map Value.string)
  lR : B ≤ b.R
  lN : B ≤ b.N
  lA : B ≤ b.A
  tx : ∀ k (h : k < b.args.length), ∃ g off, b.x = some ⟨g, off, none⟩ ∧ g < B ∧ w.cell? ⟨g, off + k, none⟩ = some (.string b.args[k])
  le : s.k ≤ b.args.length
section
variable {B : Nat} {b : RB} {w w' : World} {s : RS}
theorem RdF.gR (h : RdF B b w s) : s.gv.ownBlock ≠ some b.R := own_ne h.og h.oR (by decide)
theorem RdF.gN (h : RdF B b w s) : s.gv.ownBlock ≠ some b.N := own_ne h.og h.oN (by decide)
theorem RdF.gA (h : RdF B b w s) : s.gv.ownBlock ≠ some b.A := own_ne h.og h.oA (by decide)
theorem RdF.rR (h : RdF B b w s) : s.rv.ownBlock ≠ some b.R := own_ne h.orr h.oR (by decide)
theorem RdF.rN (h : RdF B b w s) : s.rv.ownBlock ≠ some b.N := own_ne h.orr h.oN (by decide)
theorem RdF.rA (h : RdF B b w s) : s.rv.ownBlock ≠ some b.A := own_ne h.orr h.oA (by decide)
theorem RdF.RN (h : RdF B b w s) : b.R ≠ b.N := fun e => by
  have := h.oR
  rw [e, h.oN] at this
  simp at this
theorem RdF.RA (h : RdF B b w s) : b.R ≠ b.A := fun e => by
  have := h.oR
  rw [e, h.oA] at this
  simp at this
theorem RdF.NA (h : RdF B b w s) : b.N ≠ b.A := fun e => by
  have := h.oN
  rw [e, h.oA] at this
  simp at this
theorem RdF.below (h : RdF B b w s) (hb : Below w.heap.size w w') (hB : B ≤ w.heap.size) : RdF B b w' s :=
  ⟨(hb.block _ (heap_ltF h.oR)).trans h.oR, (hb.block _ (heap_ltF h.oN)).trans h.oN, (hb.block _ (heap_ltF h.oA)).trans h.oA,
    h.og.kept (row := none) ⟨hb.os, hb.tape, hb.output, hb.size, fun k hk _ => hb.block k hk⟩ (by cases hv : s.gv.ownBlock <;> simp),
    h.orr.kept (row := none) ⟨hb.os, hb.tape, hb.output, hb.size, fun k hk _ => hb.block k hk⟩ (by cases hv : s.rv.ownBlock <;> simp), h.lR, h.lN, h.lA,
    fun k hk => by
      obtain ⟨g, off, e, hg, hc⟩ := h.tx k hk
      exact ⟨g, off, e, hg, (hb.cell (p := ⟨g, off + k, none⟩) (by show g < w.heap.size; omega)).trans hc⟩, h.le⟩
theorem heap_set (W : World) (q j : Nat) (u : Value) (a : Array Value) (t : TypeId) (fr : Nat × Nat) (h : W.heap[q]? = some (Obj.cells a t fr)) : (W.setCell ⟨q, j, none⟩ u).heap[q]? = some (Obj.cells (a.setIfInBounds j u) t fr) := by
  simp [World.setCell, Array.getElem?_modify, h]
/-- One more argument is taken. -/
theorem RdF.next (h : RdF B b w s) (hk : s.k < b.args.length) : RdF B b (w.setCell ⟨b.N, 0, none⟩ (.int .i64 ((s.k + 1 : Nat) : Int))) { s with k := s.k + 1 } := by
  have keep : ∀ q, q ≠ b.N → (w.setCell ⟨b.N, 0, none⟩ (.int .i64 ((s.k + 1 : Nat) : Int))).heap[q]? = w.heap[q]? := fun q hq => Below.heap_setCell _ ⟨b.N, 0, none⟩ _ _ hq
  refine ⟨(keep _ h.RN).trans h.oR, (heap_set w b.N 0 _ _ _ _ h.oN).trans (by simp), (keep _ h.NA.symm).trans h.oA, ?_, ?_, h.lR, h.lN, h.lA, fun k hk' => ?_, hk⟩
  · exact h.og.kept (row := some b.N) ⟨rfl, rfl, rfl, by simp [World.setCell], fun q _ hne => keep q (fun e => hne (by rw [e]))⟩ (.inr h.gN)
  · exact h.orr.kept (row := some b.N) ⟨rfl, rfl, rfl, by simp [World.setCell], fun q _ hne => keep q (fun e => hne (by rw [e]))⟩ (.inr h.rN)
  · obtain ⟨g, off, e, hg, hc⟩ := h.tx k hk'
    exact ⟨g, off, e, hg, by rw [World.cell?_of_block (w := w) (a := ⟨g, off + k, none⟩) (keep g (by have := h.lN; omega))]; exact hc⟩
theorem RdF.cells (h : RdF B b w s) : w.cell? ⟨b.R, 0, none⟩ = some (.pointer (some ⟨b.S, 0, none⟩)) ∧ w.cell? ⟨b.R, 1, none⟩ = some (takeF b) ∧ w.cell? ⟨b.R, 2, none⟩ = some s.gv ∧ w.cell? ⟨b.R, 3, none⟩ = some s.rv ∧ w.cell? ⟨b.R, 4, none⟩ = some (.bool s.hp) ∧ ∀ j, w.frozen? ⟨b.R, j, none⟩ = false := by
  refine ⟨?_, ?_, ?_, ?_, ?_, fun j => by simp [World.frozen?, h.oR]⟩
  all_goals rw [cell_of_row w b.R _ _ _ _ h.oR]; rfl
theorem RdF.cellN (h : RdF B b w s) : w.cell? ⟨b.N, 0, none⟩ = some (.int .i64 s.k) ∧ w.frozen? ⟨b.N, 0, none⟩ = false := ⟨by rw [cell_of_row w b.N _ _ _ _ h.oN]; rfl, by simp [World.frozen?, h.oN]⟩
theorem RdF.cellA (h : RdF B b w s) : w.cell? ⟨b.A, 0, none⟩ = some (.slice b.x b.args.length b.c) := by rw [cell_of_row w b.A _ _ _ _ h.oA]; rfl
end
set_option maxRecDepth 100000 in
theorem take_yes (B : Nat) (b : RB) (w : World) (s : RS) (h : RdF B b w s) (hk : s.k < b.args.length) (hn : b.args.length ≤ 4294967280) :
    Calls Tryz.prog 72 #[.pointer (some ⟨b.N, 0, none⟩), .pointer (some ⟨b.A, 0, none⟩)] w fun e w' => e = .returned (.tuple #[.string b.args[s.k], .int .i64 s.k, .bool true]) ∧ w' = w.setCell ⟨b.N, 0, none⟩ (.int .i64 ((s.k + 1 : Nat) : Int)) := by
  obtain ⟨n0, n1⟩ := h.cellN
  have a0 := h.cellA
  have hNA := h.NA
  obtain ⟨g, off, hx, hg, t0⟩ := h.tx s.k hk
  have hlN := h.lN
  have hgN : ¬ b.N = g := by omega
  have hgN2 : ¬ g = b.N := by omega
  have hAN : ¬ b.A = b.N := fun e => hNA e.symm
  generalize b.args[s.k] = T at t0
  obtain ⟨n, hn'⟩ : ∃ n, b.args.length = n := ⟨_, rfl⟩
  rw [hn'] at a0 hk hn
  have q0 : ((s.k : Int) == n) = false := beq_eq_false_iff_ne.2 (by omega)
  have q1 : (0 : Int) ≤ s.k := by omega
  have q2 : (s.k : Int) < n := by omega
  have w1 : IntKind.i64.wrap ((s.k : Int) + 1) = (s.k : Int) + 1 := IntWalk.i64_in _ (by omega)
  rw [show ((s.k + 1 : Nat) : Int) = (s.k : Int) + 1 by omega]
  rw [hx] at a0
  clear h hx hg hlN hNA hn' hk hn
  generalize b.N = N at *
  generalize b.A = A at *
  generalize s.k = k at *
  go_enter Tryz.func72, Tryz.ntmps72
  go_wp2
  go_ret3
  exact ⟨rfl, rfl⟩
set_option maxRecDepth 100000 in
theorem take_no (B : Nat) (b : RB) (w : World) (s : RS) (h : RdF B b w s) (hk : s.k = b.args.length) :
    Calls Tryz.prog 72 #[.pointer (some ⟨b.N, 0, none⟩), .pointer (some ⟨b.A, 0, none⟩)] w fun e w' => e = .returned (.tuple #[.string ⟨#[]⟩, .int .i64 0, .bool false]) ∧ w' = w := by
  obtain ⟨n0, n1⟩ := h.cellN
  have a0 := h.cellA
  rw [← hk] at a0
  clear h hk
  generalize b.N = N at *
  generalize b.A = A at *
  generalize s.k = k at *
  go_enter Tryz.func72, Tryz.ntmps72
  go_wp2
  go_ret3
  exact ⟨rfl, rfl⟩

section
variable {B : Nat} {b : RB} {w w2 : World} {s : RS}
theorem RdF.apart (h : RdF B b w s) : s.gv.ownBlock = none ∨ s.gv.ownBlock ≠ s.rv.ownBlock := by
  rcases h.orr.2 with ⟨h1, _⟩ | ⟨g, cap, cur, h1, _, hg, _⟩
  · cases hv : s.gv.ownBlock with
    | none => exact .inl rfl
    | some q => exact .inr (by rw [h1]; intro e; cases e)
  · refine .inr ?_
    rw [h1]
    exact own_ne h.og hg (by decide)
theorem RdF.apart2 (h : RdF B b w s) : s.rv.ownBlock = none ∨ s.rv.ownBlock ≠ s.gv.ownBlock := by
  rcases h.og.2 with ⟨h1, _⟩ | ⟨g, cap, cur, h1, _, hg, _⟩
  · cases hv : s.rv.ownBlock with
    | none => exact .inl rfl
    | some q => exact .inr (by rw [h1]; intro e; cases e)
  · refine .inr ?_
    rw [h1]
    exact own_ne h.orr hg (by decide)
/-- One more that is no flag. -/
theorem RdF.pushR (h : RdF B b w s) (hB : B ≤ w.heap.size) {v2 : Value} {t : ByteArray} (ho : w2.ownsRow B 9 1 v2 (s.rs.length + 1) (s.rs.map Value.string ++ [.string t])) (hg : w.grownBy w2 s.rv.ownBlock) :
    RdF B b (w2.setCell ⟨b.R, 3, none⟩ v2) { s with rv := v2, rs := s.rs ++ [t] } ∧ Below B w (w2.setCell ⟨b.R, 3, none⟩ v2) := by
  have oR2 := (hg.block b.R (heap_ltF h.oR) (fun e => h.rR e.symm)).trans h.oR
  have oN2 := (hg.block b.N (heap_ltF h.oN) (fun e => h.rN e.symm)).trans h.oN
  have oA2 := (hg.block b.A (heap_ltF h.oA) (fun e => h.rA e.symm)).trans h.oA
  have keep : ∀ q, q ≠ b.R → (w2.setCell ⟨b.R, 3, none⟩ v2).heap[q]? = w2.heap[q]? := fun q hq => Below.heap_setCell _ ⟨b.R, 3, none⟩ _ _ hq
  have hgb : w2.grownBy (w2.setCell ⟨b.R, 3, none⟩ v2) (some b.R) := ⟨rfl, rfl, rfl, by simp [World.setCell], fun q _ hne => keep q (fun e => hne (by rw [e]))⟩
  have og2 := h.og.kept hg h.apart
  have hbw : Below B w w2 := (Below.refl B w).grown hg hB (fun k hk => (h.orr.lt k hk).1)
  refine ⟨⟨(heap_set w2 b.R 3 _ _ _ _ oR2).trans (by simp), (keep _ h.RN.symm).trans oN2, (keep _ h.RA.symm).trans oA2, og2.kept hgb (.inr (own_ne og2 oR2 (by decide))), ?_, h.lR, h.lN, h.lA, fun k hk => ?_, h.le⟩, hbw.setCell (p := ⟨b.R, 3, none⟩) h.lR _⟩
  · have := ho.kept hgb (.inr (own_ne ho oR2 (by decide)))
    simpa using this
  · obtain ⟨g, off, e, hgB, hc⟩ := h.tx k hk
    refine ⟨g, off, e, hgB, ?_⟩
    rw [World.cell?_of_block (w := w2) (a := ⟨g, off + k, none⟩) (keep g (by have := h.lR; omega)), hbw.cell (p := ⟨g, off + k, none⟩) hgB]
    exact hc
/-- One more that is given. -/
theorem RdF.pushG (h : RdF B b w s) (hB : B ≤ w.heap.size) {v2 : Value} {t : GivV} (ho : w2.ownsRow B 27 3 v2 (s.gs.length + 1) (gFlat s.gs ++ gCells t)) (hg : w.grownBy w2 s.gv.ownBlock) :
    RdF B b (w2.setCell ⟨b.R, 2, none⟩ v2) { s with gv := v2, gs := s.gs ++ [t] } ∧ Below B w (w2.setCell ⟨b.R, 2, none⟩ v2) := by
  have oR2 := (hg.block b.R (heap_ltF h.oR) (fun e => h.gR e.symm)).trans h.oR
  have oN2 := (hg.block b.N (heap_ltF h.oN) (fun e => h.gN e.symm)).trans h.oN
  have oA2 := (hg.block b.A (heap_ltF h.oA) (fun e => h.gA e.symm)).trans h.oA
  have keep : ∀ q, q ≠ b.R → (w2.setCell ⟨b.R, 2, none⟩ v2).heap[q]? = w2.heap[q]? := fun q hq => Below.heap_setCell _ ⟨b.R, 2, none⟩ _ _ hq
  have hgb : w2.grownBy (w2.setCell ⟨b.R, 2, none⟩ v2) (some b.R) := ⟨rfl, rfl, rfl, by simp [World.setCell], fun q _ hne => keep q (fun e => hne (by rw [e]))⟩
  have orr2 := h.orr.kept hg h.apart2
  have hbw : Below B w w2 := (Below.refl B w).grown hg hB (fun k hk => (h.og.lt k hk).1)
  refine ⟨⟨(heap_set w2 b.R 2 _ _ _ _ oR2).trans (by simp), (keep _ h.RN.symm).trans oN2, (keep _ h.RA.symm).trans oA2, ?_, orr2.kept hgb (.inr (own_ne orr2 oR2 (by decide))), h.lR, h.lN, h.lA, fun k hk => ?_, h.le⟩, hbw.setCell (p := ⟨b.R, 2, none⟩) h.lR _⟩
  · have := ho.kept hgb (.inr (own_ne ho oR2 (by decide)))
    have e : gFlat (s.gs ++ [t]) = gFlat s.gs ++ gCells t := by unfold gFlat; rw [List.flatMap_append]; simp
    simp only [List.length_append, List.length_cons, List.length_nil]
    rw [e]; exact this
  · obtain ⟨g, off, e, hgB, hc⟩ := h.tx k hk
    refine ⟨g, off, e, hgB, ?_⟩
    rw [World.cell?_of_block (w := w2) (a := ⟨g, off + k, none⟩) (keep g (by have := h.lR; omega)), hbw.cell (p := ⟨g, off + k, none⟩) hgB]
    exact hc
end
/-- An append of one text, as a step of a region that draws its order. -/
theorem stepY {ops : Array Oper} {o : Oper} {a : Act} {W : World} {K : Act → World → Prop} {Q : Exit → Act → World → Prop} {E : Prop} (hgd : o.guard = none) (sl x : Operand)
    (ho : o.op = .call { callee := .builtin .append, args := #[sl, x], argTypes := #[33, 33] }) {B n : Nat} {v : Value} {vs : List Value} (hown : W.ownsRow B 9 1 v n vs) (hB : B ≤ W.heap.size) (hn : n ≤ 10000000000) (t : ByteArray) (hs : a.eval sl = v)
    {g c : Nat} (hx : a.eval x = .slice (some ⟨g, 0, none⟩) 1 c) (hk : W.cell? ⟨g, 0, none⟩ = some (.string t))
    (h : ∀ g2 cap W2, W2.ownsRow B 9 1 (.slice (some ⟨g2, 0, none⟩) (n + 1) cap) (n + 1) (vs ++ [.string t]) → W.grownBy W2 v.ownBlock → K (a.put o.dst (.slice (some ⟨g2, 0, none⟩) (n + 1) cap)) W2) :
    if Region.wanted o (yielded ops a.tmps) = true then Oper.wp Tryz.prog o a W K Q else E := by
  obtain ⟨i0, hi, hz0, hz1, hz2⟩ := info_parts infoTx
  refine step_append_lies _ hgd sl x _ ho B 9 i0 _ 1 16 Tryz.underlying33 hi hz0 hz1 hz2 rfl (by decide) v n vs hs hown ⟨g, 0, none⟩ 1 c [.string t] hx rfl (fun j u hu => ?_) ?_ (by decide) (by unfold maxLen; omega) (by omega) hB _ rfl ?_
  · have : j = 0 := by have := (List.getElem?_eq_some_iff.1 hu).1; simp at this; exact this
    subst this
    rw [add_at]
    simp at hu
    rw [← hu]; exact hk
  · intro u hu
    rw [List.mem_singleton.1 hu]; rfl
  · intro g2 cap W2 h1 h2 _ _
    exact h g2 cap W2 h1 h2
set_option maxHeartbeats 3200000 in
set_option maxRecDepth 100000 in
theorem leave_any (B : Nat) (b : RB) (w : World) (s : RS) (h : RdF B b w s) (hB : B ≤ w.heap.size) (t : ByteArray) (ht : t.size ≤ 4294967280) (hn : s.rs.length ≤ 4294967280) :
    Calls Tryz.prog 75 #[.pointer (some ⟨b.R, 0, none⟩), .string t] w fun e w' => e = .returned (.tuple #[]) ∧ ∃ v2, RdF B b w' { s with rv := v2, rs := s.rs ++ [t] } ∧ Below B w w' := by
  have HCL : Hid (∀ W, Calls Tryz.prog 45 #[.string t] W fun e w' => e = .returned (.string t) ∧ Below W.heap.size W w') := Lib.hid fun W => clone_any t W (by omega)
  have HR : Hid (∀ W, Below w.heap.size w W → RdF B b W s ∧ B ≤ W.heap.size ∧ Below B w W) := Lib.hid fun W hb => ⟨h.below hb hB, Nat.le_trans hB hb.size, hb.mono hB⟩
  have HCE : Hid (∀ W, Below w.heap.size w W → W.cell? ⟨b.R, 3, none⟩ = some s.rv) := Lib.hid fun W hb => (h.below hb hB).cells.2.2.2.1
  have HFS : Hid (∀ W W2, Below w.heap.size w W → W.grownBy W2 s.rv.ownBlock → W2.cell? ⟨b.R, 3, none⟩ = some s.rv ∧ W2.frozen? ⟨b.R, 3, none⟩ = false) := Lib.hid fun W W2 hb hg => by
    have h' := h.below hb hB
    have e := hg.block b.R (heap_ltF h'.oR) (fun e => h'.rR e.symm)
    exact ⟨(cell_blk e 3).trans h'.cells.2.2.2.1, (frozen_blk e 3).trans (h'.cells.2.2.2.2.2 3)⟩
  obtain ⟨xv, cv, hv⟩ := own_form h.orr
  have e0 : w.cell? ⟨b.R, 3, none⟩ = some s.rv := HCE.out w (Below.refl _ _)
  obtain ⟨n, hn'⟩ : ∃ n, s.rs.length = n := ⟨_, rfl⟩
  have HNN := Lib.hid hn'
  obtain ⟨rv, hrv⟩ : ∃ rv, s.rv = rv := ⟨_, rfl⟩
  have HRV := Lib.hid hrv
  rw [hrv] at e0 HCE HFS hv
  rw [hn'] at hv hn
  subst hv
  have HBD := Lib.hid (below_drewN w 1)
  have HOR : Hid (∀ W, Below w.heap.size w W → W.ownsRow B 9 1 (.slice xv n cv) n (s.rs.map Value.string)) := Lib.hid fun W hb => by
    have h5 := (HR.out W hb).1.orr
    rw [HRV.out, HNN.out] at h5
    exact h5
  have HPU : Hid (∀ W W2 v2, Below w.heap.size w W → W2.ownsRow B 9 1 v2 (n + 1) (s.rs.map Value.string ++ [.string t]) → W.grownBy W2 (Value.slice xv n cv).ownBlock → RdF B b (W2.setCell ⟨b.R, 3, none⟩ v2) { s with rv := v2, rs := s.rs ++ [t] } ∧ Below B w (W2.setCell ⟨b.R, 3, none⟩ v2) ∧ W2.cell? ⟨b.R, 3, none⟩ = some (.slice xv n cv) ∧ W2.frozen? ⟨b.R, 3, none⟩ = false) := Lib.hid fun W W2 v2 hb h1 h2 => by
    obtain ⟨r1, r2, r3⟩ := HR.out W hb
    have h2' := h2
    rw [← HRV.out] at h2'
    obtain ⟨p1, p2⟩ := r1.pushR r2 (by rw [HNN.out]; exact h1) h2'
    exact ⟨p1, r3.trans p2, HFS.out W W2 hb h2⟩
  clear h hn'
  go_enter Tryz.func75, Tryz.ntmps75
  go_wp2
  go_region_law (first
    | (go_simp; (with_reducible refine (HCL.out _).mono ?_); rintro e w2 ⟨rfl, hb⟩; have HB2 := Lib.hid (HBD.out.trans (hb.mono HBD.out.size)); have e2 := HCE.out _ HB2.out; have e3 : ∀ o, (w2.alloc o).cell? ⟨b.R, 3, none⟩ = some (.slice xv n cv) := fun o => HCE.out _ (HB2.out.trans ((below_one w2 o).mono HB2.out.size)); have HBA : Hid (∀ o, Below w.heap.size w (w2.alloc o)) := Lib.hid fun o => HB2.out.trans ((below_one w2 o).mono HB2.out.size); have HOW : Hid (∀ o, (w2.alloc o).ownsRow B 9 1 (.slice xv n cv) n (s.rs.map Value.string)) := Lib.hid (fun o => HOR.out _ (HBA.out o)); clear hb; dsimp only)
    | (refine stepY rfl _ _ rfl (HOW.out _) (Nat.le_trans hB (HBA.out _).size) (by omega) t rfl rfl (by simp) ?_; intro g4 cap4 w4 h1 h2; obtain ⟨hf4, hb4, e4, e5⟩ := HPU.out _ _ _ (HBA.out _) h1 h2; have HF4 := Lib.hid hf4; have HB4 := Lib.hid hb4; clear h1 h2 hf4 hb4))
  all_goals
    go_wp2
    go_end0
    exact ⟨rfl, _, HF4.out, HB4.out⟩

set_option maxHeartbeats 3200000 in
set_option maxRecDepth 100000 in
theorem give_any (B : Nat) (b : RB) (w : World) (s : RS) (h : RdF B b w s) (hB : B ≤ w.heap.size) (k : KeyV) (t : ByteArray) (at_ : Int) (ht : t.size ≤ 4294967280) (hkn : k.name.size ≤ 4294967280) (hn : s.gs.length ≤ 4294967280) :
    Calls Tryz.prog 102 #[.pointer (some ⟨b.R, 0, none⟩), kAgg k, .string t, .int .i64 at_] w fun e w' => e = .returned (.tuple #[]) ∧ ∃ v2, RdF B b w' { s with gv := v2, gs := s.gs ++ [⟨k.name, t, at_⟩] } ∧ Below B w w' := by
  have HCN : Hid (∀ W, Calls Tryz.prog 45 #[.string k.name] W fun e w' => e = .returned (.string k.name) ∧ Below W.heap.size W w') := Lib.hid fun W => clone_any k.name W (by omega)
  have HCT : Hid (∀ W, Calls Tryz.prog 45 #[.string t] W fun e w' => e = .returned (.string t) ∧ Below W.heap.size W w') := Lib.hid fun W => clone_any t W (by omega)
  have HR : Hid (∀ W, Below w.heap.size w W → RdF B b W s ∧ B ≤ W.heap.size ∧ Below B w W) := Lib.hid fun W hb => ⟨h.below hb hB, Nat.le_trans hB hb.size, hb.mono hB⟩
  have HCE : Hid (∀ W, Below w.heap.size w W → W.cell? ⟨b.R, 2, none⟩ = some s.gv) := Lib.hid fun W hb => (h.below hb hB).cells.2.2.1
  have HFS : Hid (∀ W W2, Below w.heap.size w W → W.grownBy W2 s.gv.ownBlock → W2.cell? ⟨b.R, 2, none⟩ = some s.gv ∧ W2.frozen? ⟨b.R, 2, none⟩ = false) := Lib.hid fun W W2 hb hg => by
    have h' := h.below hb hB
    have e := hg.block b.R (heap_ltF h'.oR) (fun e => h'.gR e.symm)
    exact ⟨(cell_blk e 2).trans h'.cells.2.2.1, (frozen_blk e 2).trans (h'.cells.2.2.2.2.2 2)⟩
  obtain ⟨xv, cv, hv⟩ := own_form h.og
  obtain ⟨n, hn'⟩ : ∃ n, s.gs.length = n := ⟨_, rfl⟩
  have HNN := Lib.hid hn'
  obtain ⟨gv, hgv⟩ : ∃ gv, s.gv = gv := ⟨_, rfl⟩
  have HRV := Lib.hid hgv
  rw [hgv] at HCE HFS hv
  rw [hn'] at hv hn
  subst hv
  have HOR : Hid (∀ W, Below w.heap.size w W → W.ownsRow B 27 3 (.slice xv n cv) n (gFlat s.gs)) := Lib.hid fun W hb => by
    have h5 := (HR.out W hb).1.og
    rw [HRV.out, HNN.out] at h5
    exact h5
  have HPU : Hid (∀ W W2 v2, Below w.heap.size w W → W2.ownsRow B 27 3 v2 (n + 1) (gFlat s.gs ++ gCells ⟨k.name, t, at_⟩) → W.grownBy W2 (Value.slice xv n cv).ownBlock → RdF B b (W2.setCell ⟨b.R, 2, none⟩ v2) { s with gv := v2, gs := s.gs ++ [⟨k.name, t, at_⟩] } ∧ Below B w (W2.setCell ⟨b.R, 2, none⟩ v2) ∧ W2.cell? ⟨b.R, 2, none⟩ = some (.slice xv n cv) ∧ W2.frozen? ⟨b.R, 2, none⟩ = false) := Lib.hid fun W W2 v2 hb h1 h2 => by
    obtain ⟨r1, r2, r3⟩ := HR.out W hb
    have h2' := h2
    rw [← HRV.out] at h2'
    obtain ⟨p1, p2⟩ := r1.pushG r2 (by rw [HNN.out]; exact h1) h2'
    exact ⟨p1, r3.trans p2, HFS.out W W2 hb h2⟩
  have HB0 : Hid (∀ t0, Below w.heap.size w (w.alloc (Obj.cells #[.string k.name, .int .i64 k.kind, .string k.dflt, .int .i64 k.least, .int .i64 k.most, .string k.letter] t0)).drew) := Lib.hid fun t0 => (below_one w _).trans ((below_drewN _ 1).mono (below_one w _).size)
  have e0 : ∀ o, (w.alloc o).cell? ⟨b.R, 2, none⟩ = some (.slice xv n cv) := fun o => HCE.out _ (below_one w o)
  clear h hn' hkn HR HFS
  obtain ⟨nm, kd, dl, la, lb, le⟩ := k
  unfold kAgg
  simp only at HCN HPU HB0 ⊢
  go_enter Tryz.func102, Tryz.ntmps102
  go_wp2
  go_region_law (first
    | (go_simp; (with_reducible refine (HCN.out _).mono ?_); rintro e w2 ⟨rfl, hb⟩; have HB2 := Lib.hid ((HB0.out _).trans (hb.mono (HB0.out _).size)); have e2 := HCE.out _ HB2.out; clear hb; dsimp only)
    | (go_simp; (with_reducible refine (HCT.out _).mono ?_); rintro e w3 ⟨rfl, hb⟩; have HB3 := Lib.hid (HB2.out.trans (hb.mono HB2.out.size)); have e3 := HCE.out _ HB3.out; have e4 : ∀ o, (w3.alloc o).cell? ⟨b.R, 2, none⟩ = some (.slice xv n cv) := fun o => HCE.out _ (HB3.out.trans ((below_one w3 o).mono HB3.out.size)); have HBA : Hid (∀ o, Below w.heap.size w (w3.alloc o)) := Lib.hid fun o => HB3.out.trans ((below_one w3 o).mono HB3.out.size); have HOW : Hid (∀ o, (w3.alloc o).ownsRow B 27 3 (.slice xv n cv) n (gFlat s.gs)) := Lib.hid (fun o => HOR.out _ (HBA.out o)); clear hb; dsimp only)
    | (refine stepG rfl _ _ rfl (HOW.out _) (Nat.le_trans hB (HBA.out _).size) (by omega) ⟨nm, t, at_⟩ rfl rfl (by simp) ?_; intro g4 cap4 w4 h1 h2; obtain ⟨hf4, hb4, e5, e6⟩ := HPU.out _ _ _ (HBA.out _) h1 h2; have HF4 := Lib.hid hf4; have HB4 := Lib.hid hb4; clear h1 h2 hf4 hb4))
  all_goals
    go_wp2
    go_end0
    exact ⟨rfl, _, HF4.out, HB4.out⟩
set_option maxHeartbeats 3200000 in
set_option maxRecDepth 100000 in
theorem giveNext_any (B : Nat) (b : RB) (w : World) (s : RS) (h : RdF B b w s) (hB : B ≤ w.heap.size) (k : KeyV) (at_ : Int) (hk : s.k < b.args.length) (ht : b.args[s.k].size ≤ 4294967280) (hkn : k.name.size ≤ 4294967280) (hn : s.gs.length ≤ 4294967280) (hl : b.args.length ≤ 4294967280) :
    Calls Tryz.prog 103 #[.pointer (some ⟨b.R, 0, none⟩), kAgg k, .int .i64 at_] w fun e w' => e = .returned (.int .i64 0) ∧ ∃ v2, RdF B b w' { s with k := s.k + 1, gv := v2, gs := s.gs ++ [⟨k.name, b.args[s.k], at_⟩] } ∧ Below B w w' := by
  have HB0 : Hid (∀ o, Below w.heap.size w (w.alloc o)) := Lib.hid (below_one w)
  have HTK : Hid (∀ o, Calls Tryz.prog 72 #[.pointer (some ⟨b.N, 0, none⟩), .pointer (some ⟨b.A, 0, none⟩)] (w.alloc o) fun e w' => e = .returned (.tuple #[.string b.args[s.k], .int .i64 s.k, .bool true]) ∧ RdF B b w' { s with k := s.k + 1 } ∧ But b.N (w.alloc o) w') := Lib.hid fun o => by
    have h0 := h.below (below_one w o) hB
    refine (take_yes B b (w.alloc o) s h0 hk hl).mono ?_
    rintro e w' ⟨rfl, rfl⟩
    exact ⟨rfl, h0.next hk, (But.refl _ _).setCell 0 _⟩
  have HX0 : Hid (∀ t0, Box6 (w.alloc (Obj.cells #[.string k.name, .int .i64 k.kind, .string k.dflt, .int .i64 k.least, .int .i64 k.most, .string k.letter] t0)) w.heap.size k) := Lib.hid fun t0 => box6_new w k t0
  have HGV : Hid (∀ W, RdF B b W { s with k := s.k + 1 } → B ≤ W.heap.size → Calls Tryz.prog 102 #[.pointer (some ⟨b.R, 0, none⟩), kAgg k, .string b.args[s.k], .int .i64 at_] W fun e w' => e = .returned (.tuple #[]) ∧ ∃ v2, RdF B b w' { s with k := s.k + 1, gv := v2, gs := s.gs ++ [⟨k.name, b.args[s.k], at_⟩] } ∧ Below B W w') := Lib.hid fun W hr hBW => give_any B b W _ hr hBW k b.args[s.k] at_ ht hkn hn
  have e1 : ∀ o, (w.alloc o).cell? ⟨b.R, 1, none⟩ = some (takeF b) := fun o => (h.below (below_one w o) hB).cells.2.1
  have hNw : b.N < w.heap.size := heap_ltF h.oN
  have HLN := Lib.hid h.lN
  unfold takeF at e1
  generalize b.args[s.k] = T at HTK HGV ht ⊢
  clear h hk ht hkn hn hl
  obtain ⟨nm, kd, dl, la, lb, le⟩ := k
  unfold kAgg at HGV ⊢
  simp only at HX0 HGV ⊢
  go_enter Tryz.func103, Tryz.ntmps103
  go_wp2_with fail
  refine (HTK.out _).mono ?_
  rintro e w2 ⟨rfl, hr2, hb2⟩
  have HR2 := Lib.hid hr2
  have HBB : Hid (Below B w w2 ∧ B ≤ w2.heap.size) := Lib.hid ⟨((HB0.out _).mono hB).trans (hb2.below HLN.out (Nat.le_trans hB (HB0.out _).size)), Nat.le_trans (Nat.le_trans hB (HB0.out _).size) hb2.2.2.2.1⟩
  have hbx := (HX0.out _).blk (hb2.2.2.2.2 w.heap.size (by simp) (by omega))
  obtain ⟨c0, c1, c2, c3, c4, c5, _⟩ := hbx
  simp only at c0 c1 c2 c3 c4 c5
  clear hr2 hb2 e1 HTK HX0
  go_wp2_with fail
  refine (HGV.out _ HR2.out HBB.out.2).mono ?_
  rintro e w3 ⟨rfl, v2, hr3, hb3⟩
  have HR3 := Lib.hid hr3
  have HB3 := Lib.hid (HBB.out.1.trans hb3)
  clear hr3 hb3
  go_wp2
  go_ret
  exact ⟨rfl, v2, HR3.out, HB3.out⟩
end Go.Proofs.YtbgoooljkdjjhaaGreatDoor
