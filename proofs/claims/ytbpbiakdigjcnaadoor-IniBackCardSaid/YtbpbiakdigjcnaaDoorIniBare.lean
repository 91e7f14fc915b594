/-
  The walk of the law's bare.
-/
import Derived.Test.YtbpbiakdigjcnaaDoorIniBackMath
namespace Go.Proofs.YtbpbiakdigjcnaaDoor
open Go.ChangeShapes Go.WideShapes Go.ChangeAt Go.RowKit

theorem numL_len : ∀ (ls : List LineV) (k : Nat), (numL k ls).length = ls.length
  | [], _ => rfl
  | l :: r, k => by rw [numL, List.length_cons, List.length_cons, numL_len r]
theorem numL_at : ∀ (ls : List LineV) (k i : Nat) (h : i < ls.length) (h2 : i < (numL k ls).length), (numL k ls)[i] = ⟨ls[i].name, ls[i].text, ((k + i : Nat) : Int)⟩
  | [], _, _, h, _ => by cases h
  | l :: r, k, 0, _, _ => rfl
  | l :: r, k, i + 1, h, h2 => by
    have := numL_at r (k + 1) i (by simpa using h) (by simpa [numL] using h2)
    simp only [numL, List.getElem_cons_succ]
    rw [this]
    congr 2; omega
set_option maxHeartbeats 1600000 in
set_option maxRecDepth 100000 in
theorem bare_yes (ls : List LineV) (x y : Option Addr) (c d : Nat) (w : World) (ha : Lns w x (numL 1 ls)) (hb : Lns w y ls) (hn : ls.length ≤ 4294967280) :
    Calls Tryd.prog 17 #[.slice x ls.length c, .slice y ls.length d] w fun e w' => e = .returned (.bool true) ∧ Below w.heap.size w w' := by
  have HA := Lib.hid ha
  have HB := Lib.hid hb
  obtain ⟨n, hn'⟩ : ∃ n, ls.length = n := ⟨_, rfl⟩
  have HN := Lib.hid hn'
  rw [hn'] at hn ⊢
  clear ha hb hn'
  go_enter Tryd.func17, Tryd.ntmps17
  go_wp2
  go_loopw [5] (fun i wr => ∃ t : Nat, i = .int .i64 t ∧ t ≤ n ∧ Hid (Below w.heap.size w wr)) (fun i _ => n - (intOf i).toNat)
  case atStart => exact ⟨0, rfl, by omega, Lib.hid (Below.refl _ _)⟩
  case round =>
    obtain ⟨t, rfl, ht, HK⟩ := hrel
    by_cases hlt : t < n
    · have htx : t < ls.length := by rw [HN.out]; exact hlt
      have htn : t < (numL 1 ls).length := by rw [numL_len]; exact htx
      obtain ⟨a', oa, ea, hal, a0, a1, a2⟩ := (HA.out.below HK.out) t htn
      obtain ⟨b', ob, eb, hbl, b0, b1, b2⟩ := (HB.out.below HK.out) t htx
      rw [numL_at ls 1 t htx htn] at a0 a1 a2
      subst ea eb
      generalize ls[t] = k at a0 a1 b0 b1 b2
      obtain ⟨kn, kt, kk⟩ := k
      simp only at a0 a1 a2 b0 b1 b2
      have q1 : (0 : Int) ≤ t := by omega
      have q2 : (t : Int) < n := by omega
      have q3 : IntKind.i64.wrap ((t : Int) + 1) = (t : Int) + 1 := IntWalk.i64_in _ (by omega)
      rw [show (((1 + t : Nat) : Int)) = (t : Int) + 1 by omega] at a2
      have HD := Lib.hid (HK.out.trans ((below_drewN wr 1).mono HK.out.size))
      clear htx htn b2
      go_wp2
      go_region
      all_goals
        go_wp2
        go_roundw
        case rel => exact ⟨t + 1, by go_num, by omega, HD⟩
        case measure => simp [intOf]; omega
    · have q2 : ¬ (t : Int) < n := by omega
      go_wp2
      go_ret
      exact ⟨rfl, HK.out⟩
set_option maxRecDepth 100000 in
theorem bare_no (n m : Nat) (x y : Option Addr) (c d : Nat) (w : World) (hne : n ≠ m) :
    Calls Tryd.prog 17 #[.slice x n c, .slice y m d] w fun e w' => e = .returned (.bool false) ∧ Below w.heap.size w w' := by
  have d0 : ((n : Int) != m) = true := ne_true (by omega)
  clear hne
  go_enter Tryd.func17, Tryd.ntmps17
  go_wp2
  go_ret
  exact ⟨rfl, Below.refl _ _⟩
end Go.Proofs.YtbpbiakdigjcnaaDoor
