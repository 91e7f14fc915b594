/-
  The walk of 'sum.words': an array of the 256 words.
-/
import Derived.Test.YtenfhddibekagaaSumWord
import Derived.Deep.WholeRow
namespace Go.Proofs.Ytenfhddibekagaa
open Go.ChangeShapes Go.WideShapes Go.ChangeAt Go.RowKit

def part (k : Nat) : Array Value := (Array.range 256).map fun i => if i < k then .int .u32 (turns 8 (i : Nat)) else .int .u32 0
theorem part_size (k : Nat) : (part k).size = 256 := by simp [part]
theorem part_get (k i : Nat) (h : i < 256) : (part k)[i]? = some (if i < k then .int .u32 (turns 8 (i : Nat)) else .int .u32 0) := by
  simp [part, h]
theorem part_zero : part 0 = Array.replicate 256 (.int .u32 0) := by
  apply Array.ext_getElem?; intro i
  by_cases h : i < 256
  · rw [part_get 0 i h]; simp [h]
  · rw [Array.getElem?_eq_none (by rw [part_size]; omega), Array.getElem?_eq_none (by simp; omega)]
theorem part_succ (k : Nat) (hk : k < 256) : (part k).setIfInBounds k (.int .u32 (turns 8 (k : Nat))) = part (k + 1) := by
  apply Array.ext_getElem?; intro i
  by_cases h : i < 256
  · rw [part_get _ i h, Array.getElem?_setIfInBounds, part_get _ i h, part_size]
    by_cases e : k = i
    · subst e; simp [hk]
    · rw [if_neg e]; by_cases g : i < k
      · rw [if_pos g, if_pos (by omega)]
      · rw [if_neg g, if_neg (by omega)]
  · rw [Array.getElem?_eq_none (by simp [part_size]; omega), Array.getElem?_eq_none (by rw [part_size]; omega)]
theorem part_one (k : Nat) : (part k).all (·.oneCell') = true := by
  rw [Array.all_eq_true]; intro i hi; simp only [part, Array.getElem_map]; split <;> rfl
theorem setRow_under (w : World) (c c' : Array Value) (t : TypeId) (o : Obj) : ((w.alloc (.cells c t)).alloc o).setRow w.heap.size c' = (w.alloc (.cells c' t)).alloc o := by
  simp only [World.setRow, World.alloc]
  congr 1
  apply Array.ext_getElem?
  intro i
  rw [Array.getElem?_modify]
  by_cases h : w.heap.size = i
  · subst h
    simp [Array.getElem?_push]
  · have h' : ¬ i = w.heap.size := fun e => h e.symm
    by_cases h2 : i = w.heap.size + 1
    · subst h2; rw [if_neg (by omega), Array.getElem?_push, if_pos (by simp), Array.getElem?_push, if_pos (by simp)]
    · simp [h, h', Array.getElem?_push, h2]

def zeros : Array Value := part 0
def full : Array Value := part 256
def wordOf (x : Int) : Int := turns 8 x
theorem wordOf_any (x : Int) (w : World) (h0 : 0 ≤ x) (h1 : x ≤ 4294967295) :
    Calls Try.prog 8 #[.int .u32 x] w fun e w' => e = .returned (.int .u32 (wordOf x)) ∧ w = w' := word_any x w h0 h1
theorem zeros_size : zeros.size = 256 := part_size 0
theorem full_size : full.size = 256 := part_size 256
theorem infoTab : (Try.prog.info? 25).map (fun i => (i.zero, i.size)) = some (some (.agg (Array.replicate 256 (.int .u32 0))), 256) := by kernel_rfl
theorem zeroTab (w : World) : (zeroValue 25).run Try.prog w = .ok (.agg zeros) w := by rw [zeros, part_zero]; exact (zero_of_info infoTab).1 w
theorem sizeTab : (Try.prog.info? 25).map (·.size) = some full.size := by rw [full_size]; exact (zero_of_info infoTab).2
theorem sizePart (k : Nat) : (Try.prog.info? 25).map (·.size) = some (part k).size := by rw [part_size]; exact (zero_of_info infoTab).2
theorem part_at (k : Nat) (hk : k < 256) : (part k)[k]? = some (.int .u32 0) := by rw [part_get k k hk, if_neg (by omega)]

set_option maxRecDepth 100000 in
set_option maxHeartbeats 400000 in
theorem words_any (w : World) :
    Calls Try.prog 7 #[] w fun e w' => e = .returned (.agg full) ∧ w' = (w.alloc (.cells full 25)).alloc (.cells full 25) := by
  have hz := zeroTab
  go_enter Try.func7, Try.ntmps7
  go_wp2
  clear hz
  go_loopw [3] (fun i wr => ∃ k : Nat, k ≤ 256 ∧ i = .int .i64 k ∧ wr = (w.alloc (.cells zeros 25)).alloc (.cells (part k) 25)) (fun i _ => 256 - (intOf i).toNat)
  case atStart => exact ⟨0, by omega, rfl, rfl⟩
  case round =>
    obtain ⟨k, hk, rfl, rfl⟩ := hrel
    by_cases hlt : k < 256
    · have hc := part_at k hlt
      go_wp2_with (go_at_call 8; refine (wordOf_any _ _ (by omega) (by omega)).mono ?_; rintro e w' ⟨rfl, rfl⟩)
      have HP : Hid ((part k).setIfInBounds k (Value.int IntKind.u32 (wordOf ↑k)) = part (k + 1)) := Lib.hid (part_succ k hlt)
      clear hc
      go_roundw
      case rel => exact ⟨k + 1, by omega, by go_num, by rw [HP.out]⟩
      case measure => simp [intOf]; omega
    · have HK : Hid (k = 256) := Lib.hid (by omega)
      go_wp2_with (first
        | refine wpList_load_row rfl 25 _ rfl (w.heap.size + 1) rfl 25 (part k) (0, 0) _ (heap_alloc2_new w _ _) Try.underlying25 rfl (sizePart k) ?_
        | (refine wpList_store_row rfl 25 _ _ rfl w.heap.size (part k) rfl rfl 25 zeros (heap_alloc2_old w _ _) (sizePart k) (by rw [zeros_size, part_size]) (part_one k) ?_; rw [setRow_under]))
      have hk2 := HK.out
      subst hk2
      refine bodyPost_ret (v := .agg full) (results_cell_row Try.results7 _ _ w.heap.size 25 full (0, 0) _ rfl (heap_alloc2_old w _ _) Try.underlying25 rfl sizeTab) rfl ⟨rfl, rfl⟩
end Go.Proofs.Ytenfhddibekagaa
