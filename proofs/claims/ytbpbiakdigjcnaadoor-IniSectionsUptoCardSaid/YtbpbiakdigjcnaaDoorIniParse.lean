/-
  The walk of package ini's Parse.
-/
import Derived.Test.YtbpbiakdigjcnaaDoorIniCatch
namespace Go.Proofs.YtbpbiakdigjcnaaDoor
open Go.ChangeShapes Go.WideShapes Go.ChangeAt Go.RowKit

set_option maxRecDepth 100000 in
theorem idle_any (a b c : Addr) (w : World) :
    CallsD Tryd.prog 27 #[.pointer (some a), .pointer (some b), .pointer (some c)] .returning w fun e u' w' => e = .returned (.tuple #[]) ∧ u' = .returning ∧ w' = w := by
  refine callsD_of_wpS Tryd.func27 rfl fun c₀ cs hu => ?_
  apply wpS_seq
  apply wpS_region
  simp [wpOpsS, go_sem, recoverD, hu, Tryd.ntmps27, Exit.thenS]
  apply wpS_seq
  apply wpS_region
  simp [wpOpsS, go_sem, Exit.thenS]
  refine wpS_cond (t := false) (by simp [Act.eval, Array.replicate]) ?_
  simp only [Bool.false_eq_true, if_false]
  refine wpS_of_wp (wp_skip ?_)
  cases c₀
  simp_all [bodyPostS, results, Tryd.results27]

/-- Three results in their blocks. -/
structure Three (w W : World) (va : Value) (vb vc : Int) : Prop where
  below : Below w.heap.size w W
  x0 : W.cell? ⟨w.heap.size, 0, none⟩ = some va
  x1 : W.cell? ⟨w.heap.size + 1, 0, none⟩ = some (.int .i64 vb)
  x2 : W.cell? ⟨w.heap.size + 1 + 1, 0, none⟩ = some (.int .i64 vc)
  y0 : W.frozen? ⟨w.heap.size, 0, none⟩ = false
  y1 : W.frozen? ⟨w.heap.size + 1, 0, none⟩ = false
  y2 : W.frozen? ⟨w.heap.size + 1 + 1, 0, none⟩ = false
theorem Three.keep {w W W' : World} {va : Value} {vb vc : Int} (h : Three w W va vb vc) (hb : Below W.heap.size W W') : Three w W' va vb vc := by
  have l0 := lt_of_cell h.x0
  have l1 := lt_of_cell h.x1
  have l2 := lt_of_cell h.x2
  exact ⟨h.below.trans (hb.mono h.below.size), (hb.cell (p := ⟨_, 0, none⟩) l0).trans h.x0, (hb.cell (p := ⟨_, 0, none⟩) l1).trans h.x1, (hb.cell (p := ⟨_, 0, none⟩) l2).trans h.x2, (hb.frozen (p := ⟨_, 0, none⟩) l0).trans h.y0, (hb.frozen (p := ⟨_, 0, none⟩) l1).trans h.y1, (hb.frozen (p := ⟨_, 0, none⟩) l2).trans h.y2⟩
theorem Three.new (w : World) (t1 t2 t3 : TypeId) : Three w (((w.alloc (Obj.cells #[.slice none 0 0] t1)).alloc (Obj.cells #[.int .i64 0] t2)).alloc (Obj.cells #[.int .i64 0] t3)) (.slice none 0 0) 0 0 := by
  have h1 : (w.alloc (Obj.cells #[.slice none 0 0] t1)).heap.size = w.heap.size + 1 := by simp
  have h2 : ((w.alloc (Obj.cells #[.slice none 0 0] t1)).alloc (Obj.cells #[.int .i64 0] t2)).heap.size = w.heap.size + 1 + 1 := by simp
  have b1 := below_one w (Obj.cells #[.slice none 0 0] t1)
  have b2 := below_one (w.alloc (Obj.cells #[.slice none 0 0] t1)) (Obj.cells #[.int .i64 0] t2)
  have b3 := below_one ((w.alloc (Obj.cells #[.slice none 0 0] t1)).alloc (Obj.cells #[.int .i64 0] t2)) (Obj.cells #[.int .i64 0] t3)
  refine ⟨(b1.trans (b2.mono b1.size)).trans (b3.mono (by omega)), ?_, ?_, ?_, ?_, ?_, ?_⟩
  · exact (b3.cell (p := ⟨w.heap.size, 0, none⟩) (by show w.heap.size < _; omega)).trans ((b2.cell (p := ⟨w.heap.size, 0, none⟩) (by show w.heap.size < _; omega)).trans (by simp))
  · refine (b3.cell (p := ⟨w.heap.size + 1, 0, none⟩) (by show w.heap.size + 1 < _; omega)).trans ?_
    rw [← h1]; simp
  · rw [← h2]
    generalize (w.alloc (Obj.cells #[.slice none 0 0] t1)).alloc (Obj.cells #[.int .i64 0] t2) = A
    simp
  · exact (b3.frozen (p := ⟨w.heap.size, 0, none⟩) (by show w.heap.size < _; omega)).trans ((b2.frozen (p := ⟨w.heap.size, 0, none⟩) (by show w.heap.size < _; omega)).trans (by simp))
  · refine (b3.frozen (p := ⟨w.heap.size + 1, 0, none⟩) (by show w.heap.size + 1 < _; omega)).trans ?_
    rw [← h1]; simp
  · rw [← h2]
    generalize (w.alloc (Obj.cells #[.slice none 0 0] t1)).alloc (Obj.cells #[.int .i64 0] t2) = A
    simp
/-- What Parse answers. -/
def ParRes (w : World) (s : List UInt8) (e : Ending) (w' : World) : Prop :=
  Below w.heap.size w w' ∧ ∃ v, e = .returned (.tuple #[v, .int .i64 (parseB s).2.1, .int .i64 (parseB s).2.2]) ∧ w'.ownsRow w.heap.size 35 3 v (parseB s).1.length (flatL (parseB s).1)
set_option maxHeartbeats 1600000 in
set_option maxRecDepth 100000 in
theorem parse_panics (s : ByteArray) (e0 n0 : Int) (w : World)
    (hr : ∀ w1, Below w.heap.size w w1 → Calls Tryd.prog 28 #[.string s] w1 fun e w' => e = .panicked [{ v := faultV e0 n0, recovered := false }] ∧ Below w1.heap.size w1 w') (hp : parseB s.data.toList = ([], e0, n0)) :
    Calls Tryd.prog 16 #[.string s] w (ParRes w s.data.toList) := by
  have hmf : ∀ (fn : Fn) (first cap : Array Value) (w : World), (Instr.makeFunc fn first cap).run Tryd.prog w = .ok (.func fn first cap) w := fun _ _ _ _ => rfl
  have HR := Lib.hid hr
  have HP := Lib.hid hp
  clear hr hp
  go_enter_defers Tryd.func16, Tryd.ntmps16
  go_wp2_with fail
  have hw3 := Three.new w 27 29 3
  refine (HR.out _ hw3.below).mono ?_
  rintro e w1 ⟨rfl, hb1⟩
  obtain ⟨hB, x0, x1, x2, y0, y1, y2⟩ := hw3.keep hb1
  show bodyPostD _ _ _ (Exit.panic _) _ _
  refine leaves_cons (f := 27) (args := #[.pointer (some ⟨w.heap.size, 0, none⟩), .pointer (some ⟨w.heap.size + 1, 0, none⟩), .pointer (some ⟨w.heap.size + 1 + 1, 0, none⟩)]) (by simp) (by simp [go_sem]) ?_
  refine (caught_any _ _ _ e0 n0 _ 0 0 [] w1 x0 x1 x2 y0 y1 y2 (by omega) (by omega) (by omega)).mono ?_
  rintro e u' w'' ⟨rfl, rfl, rfl⟩
  have n1 : ¬ w.heap.size = w.heap.size + 1 := by omega
  have n2 : ¬ w.heap.size = w.heap.size + 1 + 1 := by omega
  have n3 : ¬ w.heap.size + 1 = w.heap.size + 1 + 1 := by omega
  have HE : Hid (ParRes w s.data.toList (.returned (.tuple #[.slice none 0 0, .int .i64 e0, .int .i64 n0])) ((((w1.alloc (Obj.cells #[.int .i64 e0, .int .i64 n0] 48)).setCell ⟨w.heap.size, 0, none⟩ (.slice none 0 0)).setCell ⟨w.heap.size + 1, 0, none⟩ (.int .i64 e0)).setCell ⟨w.heap.size + 1 + 1, 0, none⟩ (.int .i64 n0)).drew) := Lib.hid (by
    refine ⟨((((hB.trans ((below_one w1 _).mono hB.size)).setCell (p := ⟨_, 0, none⟩) (Nat.le_refl _) _).setCell (p := ⟨_, 0, none⟩) (Nat.le_succ _) _).setCell (p := ⟨_, 0, none⟩) (by show w.heap.size ≤ w.heap.size + 1 + 1; omega) _).drew, .slice none 0 0, ?_, ?_⟩
    · rw [HP.out]
    · rw [HP.out]; exact World.ownsRow_nil _ _ _ _)
  have hA := below_one w1 (Obj.cells #[.int .i64 e0, .int .i64 n0] 48)
  have z0 := (hA.cell (p := ⟨_, 0, none⟩) (lt_of_cell x0)).trans x0
  have z1 := (hA.cell (p := ⟨_, 0, none⟩) (lt_of_cell x1)).trans x1
  have z2 := (hA.cell (p := ⟨_, 0, none⟩) (lt_of_cell x2)).trans x2
  generalize w1.alloc (Obj.cells #[.int .i64 e0, .int .i64 n0] 48) = W at *
  have o : ∀ (V : World) (i j : Nat) (u : Value), ¬ i = j → (V.setCell ⟨i, 0, none⟩ u).cell? ⟨j, 0, none⟩ = V.cell? ⟨j, 0, none⟩ := fun V i j u hn => World.cell?_setCell_other _ _ _ _ (fun e => hn (by injection e))
  have r0 : (((W.setCell ⟨w.heap.size, 0, none⟩ (.slice none 0 0)).setCell ⟨w.heap.size + 1, 0, none⟩ (.int .i64 e0)).setCell ⟨w.heap.size + 1 + 1, 0, none⟩ (.int .i64 n0)).cell? ⟨w.heap.size, 0, none⟩ = some (.slice none 0 0) := by
    rw [o _ _ _ _ (by omega), o _ _ _ _ (by omega)]; exact World.cell?_setCell_same _ _ _ z0
  have r1 : (((W.setCell ⟨w.heap.size, 0, none⟩ (.slice none 0 0)).setCell ⟨w.heap.size + 1, 0, none⟩ (.int .i64 e0)).setCell ⟨w.heap.size + 1 + 1, 0, none⟩ (.int .i64 n0)).cell? ⟨w.heap.size + 1, 0, none⟩ = some (.int .i64 e0) := by
    rw [o _ _ _ _ (by omega)]; exact World.cell?_setCell_same _ _ _ ((o _ _ _ _ (by omega)).trans z1)
  have r2 : (((W.setCell ⟨w.heap.size, 0, none⟩ (.slice none 0 0)).setCell ⟨w.heap.size + 1, 0, none⟩ (.int .i64 e0)).setCell ⟨w.heap.size + 1 + 1, 0, none⟩ (.int .i64 n0)).cell? ⟨w.heap.size + 1 + 1, 0, none⟩ = some (.int .i64 n0) :=
    World.cell?_setCell_same _ _ _ ((o _ _ _ _ (by omega)).trans ((o _ _ _ _ (by omega)).trans z2))
  clear o z0 z1 z2 hA
  simp [Leaves, settle, results, Tryd.results16, go_sem, r0, r1, r2]
  exact HE.out

theorem own_slice {w : World} {B : Nat} {e : TypeId} {size n : Nat} {v : Value} {xs : List Value} (h : w.ownsRow B e size v n xs) : ∃ x c, v = .slice x n c := by
  rcases h.2 with ⟨h1, h2⟩ | ⟨g, cap, cur, h1, _⟩
  · exact ⟨none, 0, by rw [h1, h2]⟩
  · exact ⟨_, _, h1⟩
/-- A return of read's lines. -/
theorem par_fin {w W w1 : World} {s : List UInt8} {out : List LineV} {v : Value} (hB : Below w.heap.size w W) (hw1 : Below W.heap.size W w1) (hown : w1.ownsRow W.heap.size 35 3 v out.length (flatL out)) (hp : parseB s = (out, 0, 0)) (hz : w.heap.size + 3 ≤ W.heap.size) (a b c : Value) :
    ParRes w s (.returned (.tuple #[v, .int .i64 0, .int .i64 0])) (((w1.setCell ⟨w.heap.size, 0, none⟩ a).setCell ⟨w.heap.size + 1, 0, none⟩ b).setCell ⟨w.heap.size + 1 + 1, 0, none⟩ c) := by
  have hb : Below w.heap.size w w1 := hB.trans (hw1.mono hB.size)
  refine ⟨((hb.setCell (p := ⟨_, 0, none⟩) (Nat.le_refl _) _).setCell (p := ⟨_, 0, none⟩) (Nat.le_succ _) _).setCell (p := ⟨_, 0, none⟩) (by show w.heap.size ≤ w.heap.size + 1 + 1; omega) _, v, by rw [hp], ?_⟩
  rw [hp]
  have hlt : ∀ g, v.ownBlock = some g → W.heap.size ≤ g := fun g hg => (hown.lt g hg).1
  have ne : ∀ x, x < W.heap.size → v.ownBlock ≠ some x := fun x hx e => by have := hlt x e; omega
  have k1 : ∀ (V : World) (x : Nat) (u : Value), x < W.heap.size → V.ownsRow w.heap.size 35 3 v out.length (flatL out) → (V.setCell ⟨x, 0, none⟩ u).ownsRow w.heap.size 35 3 v out.length (flatL out) := fun V x u hx h =>
    h.kept (grown_of_but ((But.refl x V).setCell 0 u)) (Or.inr (ne x hx))
  exact k1 _ _ _ (by omega) (k1 _ _ _ (by omega) (k1 _ _ _ (by omega) (own_less hown hB.size)))
set_option maxHeartbeats 1600000 in
set_option maxRecDepth 100000 in
theorem parse_returns (s : ByteArray) (out : List LineV) (w : World)
    (hr : ∀ w1, Below w.heap.size w w1 → Calls Tryd.prog 28 #[.string s] w1 fun e w' => Below w1.heap.size w1 w' ∧ ∃ v, e = .returned v ∧ w'.ownsRow w1.heap.size 35 3 v out.length (flatL out)) (hp : parseB s.data.toList = (out, 0, 0)) :
    Calls Tryd.prog 16 #[.string s] w (ParRes w s.data.toList) := by
  have hmf : ∀ (fn : Fn) (first cap : Array Value) (w : World), (Instr.makeFunc fn first cap).run Tryd.prog w = .ok (.func fn first cap) w := fun _ _ _ _ => rfl
  have HR := Lib.hid hr
  have HP := Lib.hid hp
  clear hr hp
  go_enter_defers Tryd.func16, Tryd.ntmps16
  go_wp2_with fail
  have hw3 := Three.new w 27 29 3
  have hz3 : w.heap.size + 3 ≤ (((w.alloc (Obj.cells #[.slice none 0 0] 27)).alloc (Obj.cells #[.int .i64 0] 29)).alloc (Obj.cells #[.int .i64 0] 3)).heap.size := by simp
  refine (HR.out _ hw3.below).mono ?_
  rintro e w1 ⟨hb1, v, rfl, hown⟩
  have HE : Hid (∀ a b c, ParRes w s.data.toList (.returned (.tuple #[v, .int .i64 0, .int .i64 0])) (((w1.setCell ⟨w.heap.size, 0, none⟩ a).setCell ⟨w.heap.size + 1, 0, none⟩ b).setCell ⟨w.heap.size + 1 + 1, 0, none⟩ c)) := Lib.hid (par_fin hw3.below hb1 hown HP.out hz3)
  obtain ⟨hB, x0, x1, x2, y0, y1, y2⟩ := hw3.keep hb1
  obtain ⟨xa, xc, hv⟩ := own_slice hown
  obtain ⟨n, hn⟩ : ∃ n, out.length = n := ⟨_, rfl⟩
  rw [hn] at hv
  subst hv
  clear hn hown hb1 hw3 hz3
  have o : ∀ (V : World) (i j : Nat) (u : Value), ¬ i = j → (V.setCell ⟨i, 0, none⟩ u).cell? ⟨j, 0, none⟩ = V.cell? ⟨j, 0, none⟩ := fun V i j u hn => World.cell?_setCell_other _ _ _ _ (fun e => hn (by injection e))
  have z1 : ∀ u, (w1.setCell ⟨w.heap.size, 0, none⟩ u).cell? ⟨w.heap.size + 1, 0, none⟩ = some (.int .i64 0) := fun u => (o _ _ _ _ (by omega)).trans x1
  have z2 : ∀ u u', ((w1.setCell ⟨w.heap.size, 0, none⟩ u).setCell ⟨w.heap.size + 1, 0, none⟩ u').cell? ⟨w.heap.size + 1 + 1, 0, none⟩ = some (.int .i64 0) := fun u u' => (o _ _ _ _ (by omega)).trans ((o _ _ _ _ (by omega)).trans x2)
  have r0 : (((w1.setCell ⟨w.heap.size, 0, none⟩ (.slice xa n xc)).setCell ⟨w.heap.size + 1, 0, none⟩ (.int .i64 0)).setCell ⟨w.heap.size + 1 + 1, 0, none⟩ (.int .i64 0)).cell? ⟨w.heap.size, 0, none⟩ = some (.slice xa n xc) := by
    rw [o _ _ _ _ (by omega), o _ _ _ _ (by omega)]; exact World.cell?_setCell_same _ _ _ x0
  have r1 : (((w1.setCell ⟨w.heap.size, 0, none⟩ (.slice xa n xc)).setCell ⟨w.heap.size + 1, 0, none⟩ (.int .i64 0)).setCell ⟨w.heap.size + 1 + 1, 0, none⟩ (.int .i64 0)).cell? ⟨w.heap.size + 1, 0, none⟩ = some (.int .i64 0) := by
    rw [o _ _ _ _ (by omega)]; exact World.cell?_setCell_same _ _ _ (z1 _)
  have r2 : (((w1.setCell ⟨w.heap.size, 0, none⟩ (.slice xa n xc)).setCell ⟨w.heap.size + 1, 0, none⟩ (.int .i64 0)).setCell ⟨w.heap.size + 1 + 1, 0, none⟩ (.int .i64 0)).cell? ⟨w.heap.size + 1 + 1, 0, none⟩ = some (.int .i64 0) :=
    World.cell?_setCell_same _ _ _ (z2 _ _)
  clear o
  go_wp2
  refine leaves_cons (f := 27) (args := #[.pointer (some ⟨w.heap.size, 0, none⟩), .pointer (some ⟨w.heap.size + 1, 0, none⟩), .pointer (some ⟨w.heap.size + 1 + 1, 0, none⟩)]) (by simp) (by simp [go_sem]) ?_
  refine (idle_any _ _ _ _).mono ?_
  rintro e u' w'' ⟨rfl, rfl, rfl⟩
  simp [Leaves, settle, results, Tryd.results16, go_sem, r0, r1, r2]
  exact HE.out _ _ _
theorem parse_any (s : ByteArray) (w : World) (hT : Tab w) (hI : MaxI w) (hs : s.size ≤ 4294967280) :
    Calls Tryd.prog 16 #[.string s] w (ParRes w s.data.toList) := by
  by_cases hl : 8000 < s.data.toList.length
  · refine parse_panics s 61 0 w (fun w1 hb => ?_) (by unfold parseB; rw [if_pos hl])
    refine (read_any s w1 (hT.below hb) (maxI_below hI hb) hs).mono ?_
    rintro e w' ⟨h1, h2⟩
    rw [if_pos hl] at h2
    exact ⟨h2, h1⟩
  · cases hr : runB 1 ([], []) (cuts 10 s.data.toList) with
    | inl n =>
      refine parse_panics s 60 n w (fun w1 hb => ?_) (by unfold parseB; rw [if_neg hl, hr])
      refine (read_any s w1 (hT.below hb) (maxI_below hI hb) hs).mono ?_
      rintro e w' ⟨h1, h2⟩
      rw [if_neg hl, hr] at h2
      exact ⟨h2, h1⟩
    | inr out =>
      refine parse_returns s out w (fun w1 hb => ?_) (by unfold parseB; rw [if_neg hl, hr])
      refine (read_any s w1 (hT.below hb) (maxI_below hI hb) hs).mono ?_
      rintro e w' ⟨h1, h2⟩
      rw [if_neg hl, hr] at h2
      exact ⟨h1, h2⟩
end Go.Proofs.YtbpbiakdigjcnaaDoor
