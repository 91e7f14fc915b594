/-
  The walk of package ini's Print: its deferred closure in both modes, and the whole.
-/
import Derived.Test.YtbpbiakdigjcnaaDoorIniWrite2
namespace Go.Proofs.YtbpbiakdigjcnaaDoor
open Go.ChangeShapes Go.WideShapes Go.ChangeAt Go.RowKit

set_option maxHeartbeats 1600000 in
set_option maxRecDepth 100000 in
theorem pcaught_any (a b : Nat) (e n : Int) (va : ByteArray) (vb : Int) (older : List PanicEntry) (w : World) (ha : w.cell? ⟨a, 0, none⟩ = some (.string va)) (hb : w.cell? ⟨b, 0, none⟩ = some (.int .i64 vb)) (fa : w.frozen? ⟨a, 0, none⟩ = false) (fb : w.frozen? ⟨b, 0, none⟩ = false) (hab : a ≠ b) :
    CallsD Tryd.prog 25 #[.pointer (some ⟨a, 0, none⟩), .pointer (some ⟨b, 0, none⟩)] (.panicking ({ v := faultV e n, recovered := false } :: older)) w fun e' u' w' =>
      e' = .returned (.tuple #[]) ∧ u' = .panicking ({ v := faultV e n, recovered := true } :: older) ∧ w' = ((w.setCell ⟨a, 0, none⟩ (.string ⟨#[]⟩)).setCell ⟨b, 0, none⟩ (.int .i64 e)).drew := by
  refine callsD_of_wpS Tryd.func25 rfl fun c₀ cs hu => ?_
  unfold faultV at hu ⊢
  apply wpS_seq
  apply wpS_region
  simp [wpOpsS, go_sem, recoverD, hu, Tryd.ntmps25, Exit.thenS]
  apply wpS_seq
  apply wpS_region
  simp [wpOpsS, go_sem, Exit.thenS]
  refine wpS_cond (t := true) (by simp [Act.eval, Array.replicate]) ?_
  simp only [if_true]
  refine wpS_of_wp ?_
  have hta : ∀ (v : Value) (xT : TypeId) (w : World), (Instr.typeAssert (.iface 48 v) xT 48 false).run Tryd.prog w = .ok v w := fun v xT w => by simp [Instr.typeAssert, run_underlying Tryd.underlying48]
  have hfd : ∀ W : World, (Instr.field 48 (.agg #[.int .i64 e, .int .i64 n]) 0).run Tryd.prog W = .ok (.int .i64 e) W := fun W => by simp [Instr.field, asAgg, run_underlying Tryd.underlying48, go_sem]
  simp only [Array.replicate, List.replicate]
  go_wp2
  go_region
  all_goals
    clear hta hfd ha hb fa fb
    cases c₀
    simp_all +zetaDelta [bodyPostS, results, Tryd.results25]
set_option maxRecDepth 100000 in
theorem pidle_any (a b : Addr) (w : World) :
    CallsD Tryd.prog 25 #[.pointer (some a), .pointer (some b)] .returning w fun e u' w' => e = .returned (.tuple #[]) ∧ u' = .returning ∧ w' = w := by
  refine callsD_of_wpS Tryd.func25 rfl fun c₀ cs hu => ?_
  apply wpS_seq
  apply wpS_region
  simp [wpOpsS, go_sem, recoverD, hu, Tryd.ntmps25, Exit.thenS]
  apply wpS_seq
  apply wpS_region
  simp [wpOpsS, go_sem, Exit.thenS]
  refine wpS_cond (t := false) (by simp [Act.eval, Array.replicate]) ?_
  simp only [Bool.false_eq_true, if_false]
  refine wpS_of_wp (wp_skip ?_)
  cases c₀
  simp_all [bodyPostS, results, Tryd.results25]

/-- Two results in their blocks. -/
structure Pair2 (w W : World) (va : ByteArray) (vb : Int) : Prop where
  below : Below w.heap.size w W
  x0 : W.cell? ⟨w.heap.size, 0, none⟩ = some (.string va)
  x1 : W.cell? ⟨w.heap.size + 1, 0, none⟩ = some (.int .i64 vb)
  y0 : W.frozen? ⟨w.heap.size, 0, none⟩ = false
  y1 : W.frozen? ⟨w.heap.size + 1, 0, none⟩ = false
theorem Pair2.keep {w W W' : World} {va : ByteArray} {vb : Int} (h : Pair2 w W va vb) (hb : Below W.heap.size W W') : Pair2 w W' va vb := by
  have l0 := lt_of_cell h.x0
  have l1 := lt_of_cell h.x1
  exact ⟨h.below.trans (hb.mono h.below.size), (hb.cell (p := ⟨_, 0, none⟩) l0).trans h.x0, (hb.cell (p := ⟨_, 0, none⟩) l1).trans h.x1, (hb.frozen (p := ⟨_, 0, none⟩) l0).trans h.y0, (hb.frozen (p := ⟨_, 0, none⟩) l1).trans h.y1⟩
theorem Pair2.new (w : World) (t1 t2 : TypeId) : Pair2 w ((w.alloc (Obj.cells #[.string ⟨#[]⟩] t1)).alloc (Obj.cells #[.int .i64 0] t2)) ⟨#[]⟩ 0 := by
  have h1 : (w.alloc (Obj.cells #[.string ⟨#[]⟩] t1)).heap.size = w.heap.size + 1 := by simp
  have b1 := below_one w (Obj.cells #[.string ⟨#[]⟩] t1)
  have b2 := below_one (w.alloc (Obj.cells #[.string ⟨#[]⟩] t1)) (Obj.cells #[.int .i64 0] t2)
  refine ⟨b1.trans (b2.mono b1.size), ?_, ?_, ?_, ?_⟩
  · exact (b2.cell (p := ⟨w.heap.size, 0, none⟩) (by show w.heap.size < _; omega)).trans (by simp)
  · rw [← h1]
    generalize w.alloc (Obj.cells #[.string ⟨#[]⟩] t1) = A
    simp
  · exact (b2.frozen (p := ⟨w.heap.size, 0, none⟩) (by show w.heap.size < _; omega)).trans (by simp)
  · rw [← h1]
    generalize w.alloc (Obj.cells #[.string ⟨#[]⟩] t1) = A
    simp
/-- What Print answers. -/
def prnV (o : Option (List UInt8)) : Value := .tuple #[.string (mkB (o.getD [])), .int .i64 (if o.isSome then 0 else 1)]
def PrnRes (w : World) (o : Option (List UInt8)) (e : Ending) (w' : World) : Prop := e = .returned (prnV o) ∧ Below w.heap.size w w'
theorem prn_world {w w1 : World} (hb : Below w.heap.size w w1) (a b : Value) : Below w.heap.size w ((w1.setCell ⟨w.heap.size, 0, none⟩ a).setCell ⟨w.heap.size + 1, 0, none⟩ b) :=
  (hb.setCell (p := ⟨_, 0, none⟩) (Nat.le_refl _) _).setCell (p := ⟨_, 0, none⟩) (Nat.le_succ _) _
set_option maxHeartbeats 1600000 in
set_option maxRecDepth 100000 in
theorem print_panics (l : Value) (w : World)
    (hr : ∀ w1, Below w.heap.size w w1 → Calls Tryd.prog 26 #[l] w1 fun e w' => e = .panicked [{ v := faultV 1 0, recovered := false }] ∧ Below w1.heap.size w1 w') :
    Calls Tryd.prog 14 #[l] w (PrnRes w none) := by
  have hmf : ∀ (fn : Fn) (first cap : Array Value) (w : World), (Instr.makeFunc fn first cap).run Tryd.prog w = .ok (.func fn first cap) w := fun _ _ _ _ => rfl
  have HR := Lib.hid hr
  clear hr
  go_enter_defers Tryd.func14, Tryd.ntmps14
  go_wp2_with fail
  have hw3 := Pair2.new w 9 29
  refine (HR.out _ hw3.below).mono ?_
  rintro e w1 ⟨rfl, hb1⟩
  obtain ⟨hB, x0, x1, y0, y1⟩ := hw3.keep hb1
  show bodyPostD _ _ _ (Exit.panic _) _ _
  refine leaves_cons (f := 25) (args := #[.pointer (some ⟨w.heap.size, 0, none⟩), .pointer (some ⟨w.heap.size + 1, 0, none⟩)]) (by simp) (by simp [go_sem]) ?_
  refine (pcaught_any _ _ 1 0 _ 0 [] w1 x0 x1 y0 y1 (by omega)).mono ?_
  rintro e u' w'' ⟨rfl, rfl, rfl⟩
  have HE : Hid (PrnRes w none (.returned (.tuple #[.string ⟨#[]⟩, .int .i64 1])) ((w1.setCell ⟨w.heap.size, 0, none⟩ (.string ⟨#[]⟩)).setCell ⟨w.heap.size + 1, 0, none⟩ (.int .i64 1)).drew) := Lib.hid ⟨rfl, (prn_world hB _ _).drew⟩
  have o : ∀ (V : World) (i j : Nat) (u : Value), ¬ i = j → (V.setCell ⟨i, 0, none⟩ u).cell? ⟨j, 0, none⟩ = V.cell? ⟨j, 0, none⟩ := fun V i j u hn => World.cell?_setCell_other _ _ _ _ (fun e => hn (by injection e))
  have r0 : ((w1.setCell ⟨w.heap.size, 0, none⟩ (.string ⟨#[]⟩)).setCell ⟨w.heap.size + 1, 0, none⟩ (.int .i64 1)).cell? ⟨w.heap.size, 0, none⟩ = some (.string ⟨#[]⟩) := by
    rw [o _ _ _ _ (by omega)]; exact World.cell?_setCell_same _ _ _ x0
  have r1 : ((w1.setCell ⟨w.heap.size, 0, none⟩ (.string ⟨#[]⟩)).setCell ⟨w.heap.size + 1, 0, none⟩ (.int .i64 1)).cell? ⟨w.heap.size + 1, 0, none⟩ = some (.int .i64 1) :=
    World.cell?_setCell_same _ _ _ ((o _ _ _ _ (by omega)).trans x1)
  clear o
  simp [Leaves, settle, results, Tryd.results14, go_sem, r0, r1]
  exact HE.out
set_option maxHeartbeats 1600000 in
set_option maxRecDepth 100000 in
theorem print_returns (l : Value) (b : List UInt8) (w : World)
    (hr : ∀ w1, Below w.heap.size w w1 → Calls Tryd.prog 26 #[l] w1 fun e w' => e = .returned (.string (mkB b)) ∧ Below w1.heap.size w1 w') :
    Calls Tryd.prog 14 #[l] w (PrnRes w (some b)) := by
  have hmf : ∀ (fn : Fn) (first cap : Array Value) (w : World), (Instr.makeFunc fn first cap).run Tryd.prog w = .ok (.func fn first cap) w := fun _ _ _ _ => rfl
  have HR := Lib.hid hr
  clear hr
  have HE : Hid (∀ W, Below w.heap.size w W → PrnRes w (some b) (.returned (.tuple #[.string (mkB b), .int .i64 0])) W) := Lib.hid fun W h => ⟨rfl, h⟩
  obtain ⟨B, hB0⟩ : ∃ B, mkB b = B := ⟨_, rfl⟩
  rw [hB0] at HR HE
  clear hB0
  go_enter_defers Tryd.func14, Tryd.ntmps14
  go_wp2_with fail
  have hw3 := Pair2.new w 9 29
  refine (HR.out _ hw3.below).mono ?_
  rintro e w1 ⟨rfl, hb1⟩
  obtain ⟨hB, x0, x1, y0, y1⟩ := hw3.keep hb1
  have HE2 := Lib.hid (HE.out _ (prn_world hB (.string B) (.int .i64 0)))
  clear hb1 hw3 HE hB
  have o : ∀ (V : World) (i j : Nat) (u : Value), ¬ i = j → (V.setCell ⟨i, 0, none⟩ u).cell? ⟨j, 0, none⟩ = V.cell? ⟨j, 0, none⟩ := fun V i j u hn => World.cell?_setCell_other _ _ _ _ (fun e => hn (by injection e))
  have z1 : ∀ u, (w1.setCell ⟨w.heap.size, 0, none⟩ u).cell? ⟨w.heap.size + 1, 0, none⟩ = some (.int .i64 0) := fun u => (o _ _ _ _ (by omega)).trans x1
  have r0 : ((w1.setCell ⟨w.heap.size, 0, none⟩ (.string B)).setCell ⟨w.heap.size + 1, 0, none⟩ (.int .i64 0)).cell? ⟨w.heap.size, 0, none⟩ = some (.string B) := by
    rw [o _ _ _ _ (by omega)]; exact World.cell?_setCell_same _ _ _ x0
  have r1 : ((w1.setCell ⟨w.heap.size, 0, none⟩ (.string B)).setCell ⟨w.heap.size + 1, 0, none⟩ (.int .i64 0)).cell? ⟨w.heap.size + 1, 0, none⟩ = some (.int .i64 0) :=
    World.cell?_setCell_same _ _ _ (z1 _)
  clear o
  go_wp2
  refine leaves_cons (f := 25) (args := #[.pointer (some ⟨w.heap.size, 0, none⟩), .pointer (some ⟨w.heap.size + 1, 0, none⟩)]) (by simp) (by simp [go_sem]) ?_
  refine (pidle_any _ _ _).mono ?_
  rintro e u' w'' ⟨rfl, rfl, rfl⟩
  simp [Leaves, settle, results, Tryd.results14, go_sem, r0, r1]
  exact HE2.out
theorem print_any (x : Option Addr) (c : Nat) (ls : List LineV) (w : World) (h : Lns w x ls) (hT : Tab w) (hn : ls.length ≤ 4294967280) (hF : Fit ls) :
    Calls Tryd.prog 14 #[.slice x ls.length c] w (PrnRes w (printF ls)) := by
  cases hp : printF ls with
  | none =>
    refine print_panics _ w fun w1 hb => ?_
    refine (written_any x c ls w1 (h.below hb) (hT.below hb) hn hF).mono ?_
    rintro e w' ⟨h1, h2⟩
    rw [hp] at h2
    exact ⟨h2, h1⟩
  | some b =>
    refine print_returns _ b w fun w1 hb => ?_
    refine (written_any x c ls w1 (h.below hb) (hT.below hb) hn hF).mono ?_
    rintro e w' ⟨h1, h2⟩
    rw [hp] at h2
    exact ⟨h2, h1⟩
end Go.Proofs.YtbpbiakdigjcnaaDoor
