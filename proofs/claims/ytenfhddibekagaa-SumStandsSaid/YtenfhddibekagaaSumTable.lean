/-
  The walks of 'sum.Table' at 0 to 255, and of the law's 'stands'.
-/
import Derived.Test.YtenfhddibekagaaSumWords
namespace Go.Proofs.Ytenfhddibekagaa
open Go.ChangeShapes Go.WideShapes Go.ChangeAt Go.RowKit

theorem full_at (k : Nat) (hk : k < 256) : full[k]? = some (.int .u32 (wordOf k)) := by rw [full, part_get 256 k hk, if_pos hk]; rfl
theorem full_one : full.all (·.oneCell') = true := part_one 256
theorem grown3 (w : World) (a b c : Array Value) (t : TypeId) : Grown w (((w.alloc (.cells a t)).alloc (.cells b t)).alloc (.cells c t)) :=
  ((((Grown.refl w).alloc _ _).alloc _ _).alloc _ _)
theorem Grown.trans' {a b c : World} (h : Grown a b) (h2 : Grown b c) : Grown a c := by
  obtain ⟨x1, x2, x3⟩ := h
  obtain ⟨y1, y2, y3⟩ := h2
  exact ⟨World.keptBut_trans x1 (World.keptBut_mono (fun _ f => f.elim) y1), fun p => (y2 p).trans (x2 p), Nat.le_trans x3 y3⟩
theorem heap_alloc3_new (w : World) (A B C : Obj) : (((w.alloc A).alloc B).alloc C).heap[w.heap.size + 1 + 1]? = some C := by
  have h := heap_alloc2_new (w.alloc A) B C
  have e : (w.alloc A).heap.size = w.heap.size + 1 := by
    show (w.heap.push A).size = _
    simp
  rwa [e] at h
theorem setRow_alloc3 (w : World) (A B : Obj) (c c' : Array Value) (t : TypeId) : (((w.alloc A).alloc B).alloc (.cells c t)).setRow (w.heap.size + 1 + 1) c' = ((w.alloc A).alloc B).alloc (.cells c' t) := by
  have e : ((w.alloc A).alloc B).heap.size = w.heap.size + 1 + 1 := by
    show ((w.heap.push A).push B).size = _
    simp
  rw [← e]; exact World.setRow_alloc_new _ _ _ _
theorem refWordOf_any (x : Int) (w : World) (h0 : 0 ≤ x) (h1 : x ≤ 255) :
    Calls Try.prog 6 #[.int .i64 x] w fun e w' => e = .returned (.int .u32 (wordOf x)) ∧ w = w' := refWord_any x w h0 h1

set_option maxRecDepth 100000 in
set_option maxHeartbeats 400000 in
theorem table_any (n : Nat) (w : World) (hn : n < 256) :
    Calls Try.prog 5 #[.int .i64 n] w fun e w' => e = .returned (.int .u32 (wordOf n)) ∧ Grown w w' := by
  have hz := zeroTab
  have ha := and255 (n := n) (by omega) (by omega)
  have hf := full_at n hn
  go_enter Try.func5, Try.ntmps5
  go_wp2_with (first
    | (go_at_call 7; refine (words_any _).mono ?_; rintro e w' ⟨rfl, rfl⟩)
    | (refine wpList_store_row rfl 25 _ _ rfl (w.heap.size + 1 + 1) full rfl rfl 25 zeros (heap_alloc3_new w _ _ _) sizeTab (by rw [zeros_size, full_size]) full_one ?_; rw [setRow_alloc3]))
  go_ret
  exact ⟨rfl, grown3 w _ _ _ _⟩

set_option maxRecDepth 100000 in
set_option maxHeartbeats 400000 in
theorem stands_any (w : World) :
    Calls Try.prog 4 #[] w fun e w' => e = .returned (.bool true) ∧ Grown w w' := by
  go_enter Try.func4, Try.ntmps4
  go_wp2
  go_loopw [1] (fun i wr => ∃ k : Nat, k ≤ 256 ∧ i = .int .i64 k ∧ Grown w wr) (fun i _ => 256 - (intOf i).toNat)
  case atStart => exact ⟨0, by omega, rfl, Grown.refl w⟩
  case round =>
    obtain ⟨k, hk, rfl, hg⟩ := hrel
    by_cases hlt : k < 256
    · go_wp2_with (first
        | (go_at_call 5; refine (table_any k _ hlt).mono ?_; rintro e w' ⟨rfl, hg2⟩)
        | (go_at_call 6; refine (refWordOf_any _ _ (by omega) (by omega)).mono ?_; rintro e w' ⟨rfl, rfl⟩))
      go_roundw
      case rel => exact ⟨k + 1, by omega, by go_num, Grown.trans' hg (by assumption)⟩
      case measure => simp [intOf]; omega
    · go_wp2
      go_ret
      exact ⟨rfl, hg⟩

theorem sumStands_any (w : World) :
    Calls Try.prog 3 #[] w fun e w' => e = .returned (.bool true) ∧ Grown w w' := by
  go_enter Try.func3, Try.ntmps3
  go_wp2_with (go_at_call 4; refine (stands_any _).mono ?_; rintro e w' ⟨rfl, hg⟩)
  go_ret
  exact ⟨rfl, by assumption⟩
end Go.Proofs.Ytenfhddibekagaa
