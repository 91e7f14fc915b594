/-
  The walk of the law ValueStands.
-/
import Derived.Test.YtolibkcdfhbdiaaDoorValueAwake
import Derived.Deep.RegionHeld3
namespace Go.Proofs.YtolibkcdfhbdiaaDoor
open Go.ChangeShapes Go.WideShapes Go.ChangeAt Go.RowKit

/-- The texts that are asked. -/
def unitTexts : List ByteArray := [⟨#[]⟩, ⟨#[115]⟩, ⟨#[109]⟩, ⟨#[104]⟩, ⟨#[100]⟩, ⟨#[107]⟩, ⟨#[103]⟩, ⟨#[75]⟩, ⟨#[77]⟩, ⟨#[116]⟩, ⟨#[98]⟩, ⟨#[107, 107]⟩, ⟨#[109, 115]⟩, ⟨#[32]⟩, ⟨#[48]⟩, ⟨#[119]⟩]
def TextsAt (w0 w : World) (T : Nat) : Prop := Below w0.heap.size w0 w ∧ T < w.heap.size ∧ ∀ j (h : j < 16), w.cell? ⟨T, j, none⟩ = some (.string (unitTexts[j]'h))
theorem TextsAt.below' {w0 w w' : World} {T : Nat} (h : TextsAt w0 w T) (hb : Below w.heap.size w w') : TextsAt w0 w' T :=
  ⟨h.1.trans (hb.mono h.1.size), Nat.lt_of_lt_of_le h.2.1 hb.size, fun j hj => by rw [hb.cell (p := ⟨T, j, none⟩) h.2.1]; exact h.2.2 j hj⟩

set_option maxHeartbeats 3200000 in
set_option maxRecDepth 100000 in
theorem stands_any (w : World) (hS : Std w) : Calls Tryd.prog 3 #[] w fun e w' => e = .returned (.bool true) ∧ Below w.heap.size w w' := by
  have HS := Lib.hid hS
  clear hS
  go_enter Tryd.func3, Tryd.ntmps3
  go_wp2_with fail
  refine (awake_any _ HS.out).mono ?_
  rintro e w1 ⟨rfl, hb1⟩
  have HT : Hid (∀ t, TextsAt w (w1.alloc (.cells (unitTexts.map Value.string).toArray t)) w1.heap.size) := Lib.hid fun t => by
    refine ⟨hb1.alloc hb1.size _, by simp, fun j hj => ?_⟩
    rw [World.cell?_alloc_at _ _ _ _ rfl]
    have h16 : j < unitTexts.length := hj
    rw [List.getElem?_toArray, List.getElem?_map, List.getElem?_eq_getElem h16]; rfl
  clear hb1
  go_wp2_with fail
  refine gen_world (fun W => TextsAt w W w1.heap.size) (HT.out _) ?_
  intro wa hT0
  have HTA := Lib.hid hT0
  clear HT hT0
  obtain ⟨T, hT⟩ : ∃ T, w1.heap.size = T := ⟨_, rfl⟩
  rw [hT] at HTA ⊢
  clear hT
  go_loopw [3, 4] (fun i _ wr => ∃ k : Int, i = .int .i64 k ∧ (-1 ≤ k ∧ k ≤ 9) ∧ Hid (TextsAt w wr T)) (fun i _ _ => (9 - intOf i).toNat)
  case atStart => exact ⟨-1, rfl, by decide, HTA⟩
  case round =>
    clear HTA
    obtain ⟨k, rfl, hk, HTA⟩ := hrel
    obtain ⟨hk0, hk1⟩ := hk
    obtain ⟨wo, rfl⟩ : ∃ wo : World, wo = wr := ⟨_, rfl⟩
    by_cases hlt : k < 9
    · go_wp2
      go_loopw [4] (fun j wq => ∃ n : Nat, j = .int .i64 n ∧ n ≤ 16 ∧ Hid (TextsAt w wq T)) (fun j _ => 16 - (intOf j).toNat)
      case atStart => exact ⟨0, rfl, by decide, HTA⟩
      case round =>
        clear HTA
        obtain ⟨n, rfl, hn, HTA⟩ := hrel
        by_cases hln : n < 16
        · have a1 := HTA.out.2.2 n hln
          obtain ⟨t, ht⟩ : ∃ t, unitTexts[n]'hln = t := ⟨_, rfl⟩
          rw [ht] at a1
          have HUN : Hid (Units wr.drew) := Lib.hid ((HS.out.below HTA.out.1).units.below (below_drewN wr 1))
          have q1 : (0 : Int) ≤ n := by omega
          have q2 : (n : Int) < 16 := by omega
          clear ht
          go_wp2
          go_region_held3 (fun w' => w'.cell? ⟨T, n, none⟩ = some (.string t)) (first | exact a1 | exact z1)
            (first
              | (go_at_call 9; (with_reducible refine (unit_any k t _ HUN.out).mono ?_); rintro e w2 ⟨rfl, hb2⟩; have HB2 := Lib.hid (HTA.out.below' ((below_drewN wr 1).trans (hb2.mono (Nat.le_refl _)))); have z1 : w2.cell? ⟨T, n, none⟩ = some (.string t) := (hb2.cell (p := ⟨T, n, none⟩) HTA.out.2.1).trans a1)
              | (go_at_call 10; (with_reducible refine (refUnit_any k t _).mono ?_); rintro e w' ⟨rfl, rfl⟩))
          all_goals
            go_wp2
            go_roundw
            case rel => exact ⟨n + 1, by go_num, by omega, HB2⟩
            case measure => simp [intOf]; omega
        · go_wp2
          go_roundw
          case rel => exact ⟨k + 1, by go_num, by omega, HTA⟩
          case measure => simp [intOf]; omega
    · go_wp2
      go_ret
      exact ⟨rfl, HTA.out.1⟩
end Go.Proofs.YtolibkcdfhbdiaaDoor
