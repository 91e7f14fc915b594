/-
  The walks of the laws GlyphStands, GlyphNumbers and GlyphCounts.
-/
import Derived.Test.YtlmjgekpbmialaaDoorGlyphAwake
namespace Go.Proofs.YtlmjgekpbmialaaDoor
open Go.ChangeShapes Go.WideShapes Go.ChangeAt Go.RowKit

set_option maxRecDepth 100000 in
set_option maxHeartbeats 1600000 in
theorem stands_any (w : World) (hT : Tab w) :
    Calls Tryd.prog 3 #[] w fun e w' => e = .returned (.bool true) ∧ Below w.heap.size w w' := by
  go_enter Tryd.func3, Tryd.ntmps3
  go_wp2_with (go_at_call 8; refine (awake_any _ hT).mono ?_; rintro e w1 ⟨rfl, hb⟩)
  have hT1 := hT.below hb
  go_loop [2] (fun i => ∃ x : Int, -300 ≤ x ∧ x ≤ 600 ∧ i = .int .i64 x) (fun i => (600 - intOf i).toNat)
  case atStart => exact ⟨-300, by omega, by omega, rfl⟩
  case round =>
    obtain ⟨x, hx0, hx1, rfl⟩ := hrel
    by_cases hlt : x < 600
    · go_wp2_with (first
        | (go_at_call 9; refine (class_any _ _ hT1).mono ?_; rintro e w' ⟨rfl, rfl⟩)
        | (go_at_call 10; refine (refClass_any _ _).mono ?_; rintro e w' ⟨rfl, rfl⟩))
      go_round
      case rel => exact ⟨x + 1, by omega, by omega, rfl⟩
      case measure => simp [intOf]; omega
    · go_wp2
      go_loop [3] (fun i => ∃ x : Int, -3 ≤ x ∧ x ≤ 12 ∧ i = .int .i64 x) (fun i => (12 - intOf i).toNat)
      case atStart => exact ⟨-3, by omega, by omega, rfl⟩
      case round =>
        clear hx0 hx1 hlt
        obtain ⟨x, hx0, hx1, rfl⟩ := hrel
        by_cases hlt : x < 12
        · go_wp2_with (first
            | (go_at_call 11; refine (count_any _ _ hT1).mono ?_; rintro e w' ⟨rfl, rfl⟩)
            | (go_at_call 12; refine (refCount_any _ _).mono ?_; rintro e w' ⟨rfl, rfl⟩))
          go_round
          case rel => exact ⟨x + 1, by omega, by omega, rfl⟩
          case measure => simp [intOf]; omega
        · go_wp2
          go_ret
          exact ⟨rfl, hb⟩

set_option maxHeartbeats 800000 in
theorem numbers_any (b c : Int) (w : World) (hT : Tab w) :
    Calls Tryd.prog 4 #[.int .i64 b, .int .i64 c] w fun e w' => e = .returned (.bool true) ∧ Below w.heap.size w w' := by
  go_enter Tryd.func4, Tryd.ntmps4
  go_wp2_with fail
  refine (awake_any _ hT).mono ?_
  rintro e w1 ⟨rfl, hb⟩
  have hT1 := hT.below hb
  go_wp2_with (first
    | (go_at_call 9; refine (class_any _ _ hT1).mono ?_; rintro e w' ⟨rfl, rfl⟩)
    | (go_at_call 10; refine (refClass_any _ _).mono ?_; rintro e w' ⟨rfl, rfl⟩)
    | (go_at_call 11; refine (count_any _ _ hT1).mono ?_; rintro e w' ⟨rfl, rfl⟩)
    | (go_at_call 12; refine (refCount_any _ _).mono ?_; rintro e w' ⟨rfl, rfl⟩))
  refine (stands_any _ hT1).mono ?_
  rintro e w2 ⟨rfl, hb2⟩
  have hB := hb.trans (hb2.mono hb.size)
  clear hb hb2
  go_wp2
  go_ret
  exact ⟨rfl, hB⟩

theorem Below.draws {B : Nat} {a w : World} (h : Below B a w) (n : Nat) : Below B a (w.drewN n) := ⟨h.os, h.tape, h.output, h.size, h.block⟩
/-- Block g holds seven numbers. -/
def Row7 (w : World) (g : Nat) (f : Nat → Int) : Prop := ∀ j, j < 7 → w.cell? ⟨g, j, none⟩ = some (.int .i64 (f j)) ∧ w.frozen? ⟨g, j, none⟩ = false
theorem Row7.add {w : World} {g k j : Nat} (h : Row7 w g (fun i => cnt i k)) (hc : cls k = j) : Row7 (w.setCell ⟨g, j, none⟩ (.int .i64 (cnt j k + 1))) g (fun i => cnt i (k + 1)) := by
  intro i hi
  obtain ⟨h1, h2⟩ := h i hi
  refine ⟨?_, by rw [World.frozen?_setCell]; exact h2⟩
  by_cases e : j = i
  · subst e
    rw [World.cell?_setCell_same _ _ _ h1]
    show _ = some (Value.int .i64 (cnt j (k + 1)))
    rw [cnt_yes hc]
  · rw [World.cell?_setCell_other _ _ _ _ (by simp), h1]
    show some (Value.int .i64 (cnt i k)) = some (Value.int .i64 (cnt i (k + 1)))
    rw [cnt_no (c := (i : Int)) (k := k) (by omega)]
def sums : Nat → Int
  | 0 => 0
  | k + 1 => sums k + cntAll k
theorem sums_in : ∀ k : Nat, 0 ≤ sums k ∧ sums k ≤ 256 * k
  | 0 => by simp [sums]
  | k + 1 => by
    have h1 := sums_in k
    have h2 := cnt_in k 256
    simp only [sums, cntAll]
    omega
theorem sums_all : sums 7 = 256 := by decide +kernel
theorem cntAll_pos : ∀ c : Fin 7, (cntAll (c.val : Int) == 0) = false := by decide +kernel
theorem make7 (W : World) : (Instr.makeSlice 33 (.int .i64 7) (.int .i64 7)).run Tryd.prog W = .ok (.slice (some ⟨W.heap.size, 0, none⟩) 7 7) (W.alloc (.cells #[.int .i64 0, .int .i64 0, .int .i64 0, .int .i64 0, .int .i64 0, .int .i64 0, .int .i64 0] 3)) := by kernel_rfl
theorem row7_new (W : World) : Row7 (W.alloc (.cells #[.int .i64 0, .int .i64 0, .int .i64 0, .int .i64 0, .int .i64 0, .int .i64 0, .int .i64 0] 3)) W.heap.size (fun i => cnt i 0) := by
  intro j hj
  refine ⟨?_, World.frozen?_alloc_at _ _ _ _ rfl⟩
  rw [World.cell?_alloc_at _ _ _ _ rfl]
  match j, hj with
  | 0, _ | 1, _ | 2, _ | 3, _ | 4, _ | 5, _ | 6, _ => rfl

set_option maxRecDepth 100000 in
set_option maxHeartbeats 1600000 in
theorem counts_any (w : World) (hT : Tab w) :
    Calls Tryd.prog 6 #[] w fun e w' => e = .returned (.bool true) ∧ Below w.heap.size w w' := by
  have hmk := make7
  go_enter Tryd.func6, Tryd.ntmps6
  go_wp2_with (go_at_call 8; refine (awake_any _ hT).mono ?_; rintro e w1 ⟨rfl, hb⟩)
  clear hmk
  have hs1 := hb.size
  have hR0 := Lib.hid (row7_new w1)
  have hB0 : Below w.heap.size w (w1.alloc (.cells #[.int .i64 0, .int .i64 0, .int .i64 0, .int .i64 0, .int .i64 0, .int .i64 0, .int .i64 0] 3)) := hb.alloc hs1 _
  go_loopw [3] (fun i wr => ∃ k : Nat, k ≤ 256 ∧ i = .int .i64 k ∧ Hid (Row7 wr w1.heap.size (fun i => cnt i k)) ∧ Below w.heap.size w wr) (fun i _ => 256 - (intOf i).toNat)
  case atStart => exact ⟨0, by omega, rfl, hR0, hB0⟩
  case round =>
    clear hR0 hB0 hb
    obtain ⟨k, hk, rfl, HR, hb⟩ := hrel
    have hT1 := hT.below hb
    by_cases hlt : k < 256
    · obtain ⟨c0, c1⟩ := cls_in k
      obtain ⟨j, hj⟩ : ∃ j : Nat, cls k = j := ⟨(cls k).toNat, by omega⟩
      have hj7 : j < 7 := by omega
      have HJ := Lib.hid hj
      have HS := Lib.hid (HR.out.add hj)
      obtain ⟨hc1, hc2⟩ := HR.out j hj7
      have hc1' : wr.cell? ⟨w1.heap.size, j, none⟩ = some (.int .i64 (cnt j k)) := hc1
      obtain ⟨n0, n1⟩ := cnt_in j k
      clear hj c0 c1 hc1
      go_wp2_with (go_at_call 9; refine (class_any _ _ hT1).mono ?_; rintro e w' ⟨rfl, rfl⟩; rw [HJ.out])
      go_roundw
      case rel => exact ⟨k + 1, by omega, by go_num, HS, hb.setCell hs1 _⟩
      case measure => simp [intOf]; omega
    · have HR2 : Hid (Row7 wr w1.heap.size (fun i => cntAll i)) := Lib.hid (by
        have h := HR.out
        rw [show k = 256 from by omega] at h
        exact h)
      clear HR
      go_wp2
      obtain ⟨wo, rfl⟩ : ∃ wo : World, wo = wr := ⟨_, rfl⟩
      go_loopw [5, 6] (fun a i wr => ∃ k : Nat, k ≤ 7 ∧ i = .int .i64 k ∧ a = .int .i64 (sums k) ∧ Hid (Row7 wr w1.heap.size (fun i => cntAll i)) ∧ Below w.heap.size w wr) (fun _ i _ => 7 - (intOf i).toNat)
      case atStart => exact ⟨0, by omega, rfl, rfl, HR2, hb⟩
      case round =>
        clear HR2 hb hT1
        obtain ⟨k, hk, rfl, rfl, HR, hb⟩ := hrel
        have hT1 := hT.below hb
        obtain ⟨s0, s1⟩ := sums_in k
        by_cases hlt : k < 7
        · obtain ⟨hc1, hc2⟩ := HR.out k hlt
          have hc1' : wr.cell? ⟨w1.heap.size, k, none⟩ = some (.int .i64 (cntAll k)) := hc1
          have hpos := cntAll_pos ⟨k, hlt⟩
          obtain ⟨n0, n1⟩ : 0 ≤ cntAll k ∧ cntAll k ≤ 256 := cnt_in k 256
          have HS : Hid (sums (k + 1) = sums k + cntAll k) := rfl
          have hk0 : (0 : Int) ≤ k := by omega
          have hk7 : (k : Int) < 7 := by omega
          clear hc1
          go_wp2_with fail
          go_quiet ((go_at_call 11; exact quietL (count_any _ _ hT1)))
          go_wp2
          go_roundw
          case rel => exact ⟨k + 1, by omega, by go_num, by rw [HS.out], HR, Below.draws hb _⟩
          case measure => simp [intOf]; omega
        · obtain rfl : k = 7 := by omega
          have hs7 := sums_all
          go_wp2
          go_ret
          exact ⟨rfl, hb⟩
end Go.Proofs.YtlmjgekpbmialaaDoor
