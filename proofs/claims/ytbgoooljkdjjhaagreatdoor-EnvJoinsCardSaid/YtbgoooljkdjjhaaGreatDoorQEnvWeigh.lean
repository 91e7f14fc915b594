/-
  EnvAdds, EnvWeigh.
-/
import Derived.Test.YtbgoooljkdjjhaaGreatDoorQEnvMath
import Derived.WalkKit
import Derived.IntWalk
import Derived.Test.YtbgoooljkdjjhaaGreatDoorQGivKit
import Derived.Deep.RegionHeld3
namespace Go.Proofs.YtbgoooljkdjjhaaGreatDoor
open Go.ChangeShapes Go.WideShapes Go.ChangeAt Go.RowKit

/-- The sum, bounded. -/
def upJ (n m : Int) : Int := if 2147483647 < n ∨ 2147483647 < m then 2147483648 else n + m
theorem upJ_in {n m : Int} (h0 : 0 ≤ n) (h1 : 0 ≤ m) : 0 ≤ upJ n m ∧ upJ n m ≤ 4294967294 := by unfold upJ; split <;> omega
set_option maxRecDepth 100000 in
theorem addsUp_any (n m : Int) (w : World) (h0 : 0 ≤ n) (h1 : n ≤ 9223372036854775807) (h2 : 0 ≤ m) (h3 : m ≤ 9223372036854775807) :
    Calls Tryz.prog 15 #[.int .i64 n, .int .i64 m] w fun e w' => e = .returned (.int .i64 (upJ n m)) ∧ w = w' := by
  by_cases h : 2147483647 < n
  · rw [show upJ n m = 2147483648 by unfold upJ; rw [if_pos (.inl h)]]
    go_enter Tryz.func15, Tryz.ntmps15
    go_wp2
    go_ret
    exact ⟨rfl, rfl⟩
  · by_cases h' : 2147483647 < m
    · rw [show upJ n m = 2147483648 by unfold upJ; rw [if_pos (.inr h')]]
      go_enter Tryz.func15, Tryz.ntmps15
      go_wp2
      go_ret
      exact ⟨rfl, rfl⟩
    · rw [show upJ n m = n + m by unfold upJ; rw [if_neg (by omega)]]
      have hw2 : IntKind.i64.wrap (n + m) = n + m := IntWalk.i64_in _ (by omega)
      go_enter Tryz.func15, Tryz.ntmps15
      go_wp2
      go_ret
      exact ⟨rfl, rfl⟩
end Go.Proofs.YtbgoooljkdjjhaaGreatDoor

namespace Go.Proofs.YtbgoooljkdjjhaaGreatDoor
open Go.ChangeShapes Go.WideShapes Go.ChangeAt Go.RowKit

def sumT (ts : List ByteArray) : Nat := (ts.map (·.size)).sum
def sumK (ks : List KeyV) : Nat := (ks.map fun k => k.name.size + k.dflt.size + k.letter.size).sum
theorem sumT_snoc (ls : List ByteArray) (l : ByteArray) : sumT (ls ++ [l]) = sumT ls + l.size := by unfold sumT; simp
theorem sumK_snoc (ls : List KeyV) (l : KeyV) : sumK (ls ++ [l]) = sumK ls + (l.name.size + l.dflt.size + l.letter.size) := by unfold sumK; simp
theorem sumT_mem {ls : List ByteArray} {l : ByteArray} (h : l ∈ ls) : l.size ≤ sumT ls := by
  induction ls with
  | nil => cases h
  | cons a r ih =>
    have e : sumT (a :: r) = a.size + sumT r := by unfold sumT; simp
    rw [e]
    rcases List.mem_cons.1 h with rfl | h
    · omega
    · have := ih h; omega
theorem sumK_mem {ls : List KeyV} {l : KeyV} (h : l ∈ ls) : l.name.size + l.dflt.size + l.letter.size ≤ sumK ls := by
  induction ls with
  | nil => cases h
  | cons a r ih =>
    have e : sumK (a :: r) = (a.name.size + a.dflt.size + a.letter.size) + sumK r := by unfold sumK; simp
    rw [e]
    rcases List.mem_cons.1 h with rfl | h
    · omega
    · have := ih h; omega
theorem upJ_step {m a s : Int} {A : Nat} (hm : m ≤ 2147483647 → m = A) (hs : s = a) (h : upJ m s ≤ 2147483647) : upJ m s = A + a := by
  subst hs
  unfold upJ at h ⊢
  split at h
  · omega
  · rename_i h1
    rw [if_neg h1]
    have := hm (by omega)
    omega
/-- What a weighing answers. -/
def WRes (W : Nat) (w : World) (e : Ending) (w' : World) : Prop := ∃ r : Int, e = .returned (.int .i64 r) ∧ 0 ≤ r ∧ r ≤ 4294967294 ∧ (r ≤ 2147483647 → r = W) ∧ Below w.heap.size w w'
set_option maxHeartbeats 1600000 in
set_option maxRecDepth 100000 in
theorem textsWeigh_any (x : Option Addr) (c : Nat) (ts : List ByteArray) (w : World) (h : TxAt w x ts) (hn : ts.length ≤ maxLen) (hz : ∀ l ∈ ts, l.size ≤ maxLen) :
    Calls Tryz.prog 20 #[.slice x ts.length c] w (WRes (ts.length + sumT ts) w) := by
  have HL := Lib.hid h
  have HZ := Lib.hid hz
  unfold maxLen at hn
  obtain ⟨n, hn'⟩ : ∃ n, ts.length = n := ⟨_, rfl⟩
  have HN := Lib.hid hn'
  rw [hn'] at hn ⊢
  have H0 : Hid (upJ 0 n ≤ 2147483647 → upJ 0 n = ((n + sumT (ts.take 0) : Nat) : Int)) := Lib.hid fun h => by
    rw [List.take_zero]
    have : sumT [] = 0 := rfl
    rw [this]
    unfold upJ at h ⊢
    split at h
    · omega
    · rename_i h1; rw [if_neg h1]; omega
  have hi0 := upJ_in (n := 0) (m := n) (by omega) (by omega)
  have hA := addsUp_any 0 n
  generalize upJ 0 n = m0 at H0 hi0 hA
  have HA : Hid (∀ W, Calls Tryz.prog 15 #[.int .i64 0, .int .i64 n] W fun e w' => e = .returned (.int .i64 m0) ∧ W = w') := Lib.hid fun W => hA W (by omega) (by omega) (by omega) (by omega)
  obtain ⟨hi1, hi2⟩ := hi0
  clear h hz hn' hA
  go_enter Tryz.func20, Tryz.ntmps20
  go_wp2_with fail
  refine (HA.out _).mono ?_
  rintro e w1 ⟨rfl, rfl⟩
  go_wp2
  go_loopw [3, 4] (fun r i wr => ∃ (t : Nat) (m : Int), r = .int .i64 m ∧ i = .int .i64 t ∧ t ≤ n ∧ 0 ≤ m ∧ m ≤ 4294967294 ∧ Hid (m ≤ 2147483647 → m = ((n + sumT (ts.take t) : Nat) : Int)) ∧ Hid (Below w.heap.size w wr)) (fun _ i _ => n - (intOf i).toNat)
  case atStart => exact ⟨0, m0, rfl, rfl, by omega, hi1, hi2, H0, Lib.hid (Below.refl _ _)⟩
  case round =>
    clear H0 hi1 hi2 HA
    obtain ⟨t, m, rfl, rfl, ht, hm0, hm1, HM, HW⟩ := hrel
    by_cases hlt : t < n
    · have q2 : (0 : Int) ≤ t := by omega
      have q3 : (t : Int) < n := by omega
      by_cases hmb : m ≤ 2147483647
      · have htx : t < ts.length := by rw [HN.out]; exact hlt
        obtain ⟨bx, off, hxe, hxl, c0⟩ := (HL.out.below HW.out) t htx
        have hTK := List.take_succ_eq_append_getElem htx
        have hzz := HZ.out _ (List.getElem_mem htx)
        generalize ts[t] = l at c0 hTK hzz
        unfold maxLen at hzz
        have hA4 := upJ_in (n := m) (m := l.size) hm0 (by omega)
        have HS : Hid (upJ m l.size ≤ 2147483647 → upJ m l.size = ((n + sumT (ts.take (t + 1)) : Nat) : Int)) := Lib.hid fun h => by
          rw [hTK, sumT_snoc, upJ_step HM.out rfl h]
          omega
        have HA : Hid (∀ W, Calls Tryz.prog 15 #[.int .i64 m, .int .i64 l.size] W fun e w' => e = .returned (.int .i64 (upJ m l.size)) ∧ W = w') := Lib.hid fun W => addsUp_any m l.size W hm0 (by omega) (by omega) (by omega)
        subst hxe
        clear htx hTK HM
        go_wp2_with fail
        refine (HA.out _).mono ?_
        rintro e w2 ⟨rfl, rfl⟩
        go_wp2
        go_roundw
        case rel => exact ⟨t + 1, _, rfl, by go_num, by omega, hA4.1, hA4.2, HS, HW⟩
        case measure => simp [intOf]; omega
      · go_wp2
        go_ret
        exact ⟨m, rfl, hm0, hm1, fun h => by omega, HW.out⟩
    · have hte : t = n := by omega
      subst hte
      have q2 : ¬ (t : Int) < t := by omega
      have HE : Hid (m ≤ 2147483647 → m = ((t + sumT ts : Nat) : Int)) := Lib.hid (by
        have := HM.out
        rw [List.take_of_length_le (by rw [HN.out]; exact Nat.le_refl _)] at this
        exact this)
      go_wp2
      go_ret
      exact ⟨m, rfl, hm0, hm1, HE.out, HW.out⟩
set_option maxHeartbeats 3200000 in
set_option maxRecDepth 100000 in
theorem keysWeigh_any (x : Option Addr) (c : Nat) (ls : List KeyV) (w : World) (h : KeysAt w x ls) (hn : ls.length ≤ maxLen) (hz : ∀ l ∈ ls, l.name.size ≤ maxLen ∧ l.dflt.size ≤ maxLen ∧ l.letter.size ≤ maxLen) :
    Calls Tryz.prog 19 #[.slice x ls.length c] w (WRes (ls.length + sumK ls) w) := by
  have HL := Lib.hid h
  have HZ := Lib.hid hz
  unfold maxLen at hn
  obtain ⟨n, hn'⟩ : ∃ n, ls.length = n := ⟨_, rfl⟩
  have HN := Lib.hid hn'
  rw [hn'] at hn ⊢
  have H0 : Hid (upJ 0 n ≤ 2147483647 → upJ 0 n = ((n + sumK (ls.take 0) : Nat) : Int)) := Lib.hid fun h => by
    rw [List.take_zero]
    have : sumK [] = 0 := rfl
    rw [this]
    unfold upJ at h ⊢
    split at h
    · omega
    · rename_i h1; rw [if_neg h1]; omega
  have hi0 := upJ_in (n := 0) (m := n) (by omega) (by omega)
  have hA := addsUp_any 0 n
  generalize upJ 0 n = m0 at H0 hi0 hA
  have HA : Hid (∀ W, Calls Tryz.prog 15 #[.int .i64 0, .int .i64 n] W fun e w' => e = .returned (.int .i64 m0) ∧ W = w') := Lib.hid fun W => hA W (by omega) (by omega) (by omega) (by omega)
  obtain ⟨hi1, hi2⟩ := hi0
  clear h hz hn' hA
  go_enter Tryz.func19, Tryz.ntmps19
  go_wp2_with fail
  refine (HA.out _).mono ?_
  rintro e w1 ⟨rfl, rfl⟩
  go_wp2
  go_loopw [3, 4] (fun r i wr => ∃ (t : Nat) (m : Int), r = .int .i64 m ∧ i = .int .i64 t ∧ t ≤ n ∧ 0 ≤ m ∧ m ≤ 4294967294 ∧ Hid (m ≤ 2147483647 → m = ((n + sumK (ls.take t) : Nat) : Int)) ∧ Hid (Below w.heap.size w wr)) (fun _ i _ => n - (intOf i).toNat)
  case atStart => exact ⟨0, m0, rfl, rfl, by omega, hi1, hi2, H0, Lib.hid (Below.refl _ _)⟩
  case round =>
    clear H0 hi1 hi2 HA
    obtain ⟨t, m, rfl, rfl, ht, hm0, hm1, HM, HW⟩ := hrel
    by_cases hlt : t < n
    · have q2 : (0 : Int) ≤ t := by omega
      have q3 : (t : Int) < n := by omega
      by_cases hmb : m ≤ 2147483647
      · have htx : t < ls.length := by rw [HN.out]; exact hlt
        obtain ⟨bx, off, hxe, hxl, c0, c1, c2, c3, c4, c5⟩ := (HL.out.below HW.out) t htx
        have hTK := List.take_succ_eq_append_getElem htx
        have hzz := HZ.out _ (List.getElem_mem htx)
        generalize ls[t] = l at c0 c1 c2 c3 c4 c5 hTK hzz
        obtain ⟨nm, kd, dl, la, lb, le⟩ := l
        simp only at c0 c1 c2 c3 c4 c5 hzz
        unfold maxLen at hzz
        obtain ⟨z1, z2, z3⟩ := hzz
        have hA2 := upJ_in (n := dl.size) (m := le.size) (by omega) (by omega)
        have hA3 := upJ_in (n := nm.size) (m := upJ dl.size le.size) (by omega) hA2.1
        have hA4 := upJ_in (n := m) (m := upJ nm.size (upJ dl.size le.size)) hm0 hA3.1
        have HS : Hid (upJ m (upJ nm.size (upJ dl.size le.size)) ≤ 2147483647 → upJ m (upJ nm.size (upJ dl.size le.size)) = ((n + sumK (ls.take (t + 1)) : Nat) : Int)) := Lib.hid fun h => by
          rw [hTK, sumK_snoc]
          simp only
          have h1 : upJ nm.size (upJ dl.size le.size) ≤ 2147483647 := by
            unfold upJ at h
            split at h
            · omega
            · rename_i h1; unfold upJ; omega
          have h2 : upJ dl.size le.size ≤ 2147483647 := by
            unfold upJ at h1
            split at h1
            · omega
            · rename_i h2; unfold upJ; omega
          have e2 : upJ dl.size le.size = dl.size + le.size := by
            unfold upJ at h2 ⊢
            split at h2
            · omega
            · rename_i h3; rw [if_neg h3]
          have e1 : upJ nm.size (upJ dl.size le.size) = nm.size + (dl.size + le.size) := by
            rw [e2] at h1 ⊢
            unfold upJ at h1 ⊢
            split at h1
            · omega
            · rename_i h3; rw [if_neg h3]
          rw [upJ_step HM.out rfl h, e1]
          omega
        have HD := Lib.hid (HW.out.trans ((below_drewN wr 1).mono HW.out.size))
        subst hxe
        clear c1 c3 c4 htx hTK HM
        go_wp2
        go_region_held3 (fun w' => w'.cell? ⟨bx, off + t * 6, none⟩ = some (.string nm) ∧ w'.cell? ⟨bx, off + t * 6 + 2, none⟩ = some (.string dl) ∧ w'.cell? ⟨bx, off + t * 6 + 5, none⟩ = some (.string le)) (first | exact ⟨c0, c2, c5⟩)
          (first | (go_at_call 15; (with_reducible refine (addsUp_any _ _ _ (by omega) (by omega) (by omega) (by omega)).mono ?_); rintro e w' ⟨rfl, rfl⟩))
        all_goals
          go_wp2
          go_roundw
          case rel => exact ⟨t + 1, _, rfl, by go_num, by omega, hA4.1, hA4.2, HS, HD⟩
          case measure => simp [intOf]; omega
      · go_wp2
        go_ret
        exact ⟨m, rfl, hm0, hm1, fun h => by omega, HW.out⟩
    · have hte : t = n := by omega
      subst hte
      have q2 : ¬ (t : Int) < t := by omega
      have HE : Hid (m ≤ 2147483647 → m = ((t + sumK ls : Nat) : Int)) := Lib.hid (by
        have := HM.out
        rw [List.take_of_length_le (by rw [HN.out]; exact Nat.le_refl _)] at this
        exact this)
      go_wp2
      go_ret
      exact ⟨m, rfl, hm0, hm1, HE.out, HW.out⟩
end Go.Proofs.YtbgoooljkdjjhaaGreatDoor
