/-
  EnvGiven.
-/
import Derived.Test.YtbgoooljkdjjhaaGreatDoorQGivLit
namespace Go.Proofs.YtbgoooljkdjjhaaGreatDoor
open Go.ChangeShapes Go.WideShapes Go.ChangeAt Go.RowKit

set_option maxHeartbeats 1600000 in
set_option maxRecDepth 100000 in
theorem egiven_any (gs : List GivV) (x y : Option Addr) (c d : Nat) (w : World) (ha : Givs w x gs) (hb : Givs w y gs) (hn : gs.length ≤ 4611686018427387904) :
    Calls Tryz.prog 26 #[.slice x gs.length c, .slice y gs.length d] w fun e w' => e = .returned (.bool true) ∧ Below w.heap.size w w' := by
  have HA := Lib.hid ha
  have HB := Lib.hid hb
  obtain ⟨n, hn'⟩ : ∃ n, gs.length = n := ⟨_, rfl⟩
  have HN := Lib.hid hn'
  rw [hn'] at hn ⊢
  clear ha hb hn'
  go_enter Tryz.func26, Tryz.ntmps26
  go_wp2
  go_loopw [5] (fun i wr => ∃ t : Nat, i = .int .i64 t ∧ t ≤ n ∧ Hid (Below w.heap.size w wr)) (fun i _ => n - (intOf i).toNat)
  case atStart => exact ⟨0, rfl, by omega, Lib.hid (Below.refl _ _)⟩
  case round =>
    obtain ⟨t, rfl, ht, HK⟩ := hrel
    by_cases hlt : t < n
    · have htx : t < gs.length := by rw [HN.out]; exact hlt
      obtain ⟨a', oa, ea, hal, a0, a1, a2⟩ := (HA.out.below HK.out) t htx
      obtain ⟨b', ob, eb, hbl, b0, b1, b2⟩ := (HB.out.below HK.out) t htx
      subst ea eb
      generalize gs[t] = k at a0 a1 a2 b0 b1 b2
      have hne := gneq_self k
      have hgd := gneq_guard
      obtain ⟨kn, kt, kk⟩ := k
      simp only at a0 a1 a2 b0 b1 b2 hne
      have q1 : (0 : Int) ≤ t := by omega
      have q2 : (t : Int) < n := by omega
      have HD := Lib.hid (HK.out.trans ((below_drewN wr 1).mono HK.out.size))
      clear htx
      go_wp2
      go_region
      all_goals
        go_wp2
        go_roundw
        case rel => exact ⟨t + 1, by go_num, by omega, HD⟩
        case measure => simp [intOf]; omega
    · have q2 : ¬ (t : Int) < n := by omega
      go_wp2
      go_ret
      exact ⟨rfl, HK.out⟩
end Go.Proofs.YtbgoooljkdjjhaaGreatDoor
