/-
  The walks of the law's weight and pick; what is taken of a list of lines.
-/
import Derived.Test.YtbpbiakdigjcnaaDoorIniAwake
import Derived.Deep.RegionHeld3
namespace Go.Proofs.YtbpbiakdigjcnaaDoor
open Go.ChangeShapes Go.WideShapes Go.ChangeAt Go.RowKit

def wLine (l : LineV) : Nat := l.name.size + 10 + 4 * l.text.size
/-- What lines weigh. -/
def wN (ls : List LineV) : Nat := (ls.map wLine).sum
theorem wN_snoc (ls : List LineV) (l : LineV) : wN (ls ++ [l]) = wN ls + wLine l := by unfold wN; simp
theorem wN_take (ls : List LineV) (k : Nat) : wN (ls.take k) ≤ wN ls := by
  conv => rhs; rw [← List.take_append_drop k ls]
  unfold wN
  rw [List.map_append, List.sum_append]; omega
theorem wN_mem {ls : List LineV} {l : LineV} (h : l ∈ ls) : wLine l ≤ wN ls := by
  induction ls with
  | nil => cases h
  | cons a r ih =>
    have e : wN (a :: r) = wLine a + wN r := by unfold wN; simp
    rw [e]
    rcases List.mem_cons.1 h with rfl | h
    · omega
    · have := ih h; omega
theorem wN_len (ls : List LineV) : 10 * ls.length ≤ wN ls := by
  induction ls with
  | nil => simp
  | cons a r ih =>
    have e : wN (a :: r) = wLine a + wN r := by unfold wN; simp
    rw [e, List.length_cons]
    unfold wLine; omega
theorem fit_of_weight {ls : List LineV} (h : wN ls ≤ 4294967280) : Fit ls := fun l hl => by
  have := wN_mem hl
  unfold wLine at this
  omega
def capB (n : Nat) : Int := min (n : Int) 2147483648
theorem addI_cap {n m : Int} : addI n m = min (n + m) 2147483648 := by unfold addI; split <;> omega
theorem weigh_step {n a b : Nat} : addI (capB n) (addI (addI a 10) (4 * min (b : Int) 2147483647)) = capB (n + (a + 10 + 4 * b)) := by
  unfold capB
  rw [addI_cap (n := (a : Int)) (m := 10), addI_cap (n := min ((a : Int) + 10) 2147483648), addI_cap]
  omega
set_option maxHeartbeats 1600000 in
set_option maxRecDepth 100000 in
theorem weight_any (x : Option Addr) (c : Nat) (ls : List LineV) (w : World) (h : Lns w x ls) (hn : ls.length ≤ maxLen) (hz : ∀ l ∈ ls, l.name.size ≤ maxLen ∧ l.text.size ≤ maxLen) :
    Calls Tryd.prog 11 #[.slice x ls.length c] w fun e w' => e = .returned (.int .i64 (capB (wN ls))) ∧ Below w.heap.size w w' := by
  have HL := Lib.hid h
  have HZ := Lib.hid hz
  unfold maxLen at hn
  obtain ⟨n, hn'⟩ : ∃ n, ls.length = n := ⟨_, rfl⟩
  have HN := Lib.hid hn'
  rw [hn'] at hn ⊢
  have H0 : Hid ((0 : Int) = capB (wN (ls.take 0))) := Lib.hid (by rw [List.take_zero]; show (0 : Int) = min ((0 : Nat) : Int) 2147483648; omega)
  clear h hz hn'
  go_enter Tryd.func11, Tryd.ntmps11
  go_wp2
  go_loopw [3, 4] (fun r i wr => ∃ (t : Nat) (m : Int), r = .int .i64 m ∧ i = .int .i64 t ∧ t ≤ n ∧ 0 ≤ m ∧ m ≤ 2147483648 ∧ Hid (m = capB (wN (ls.take t))) ∧ Hid (Below w.heap.size w wr)) (fun _ i _ => n - (intOf i).toNat)
  case atStart => exact ⟨0, 0, rfl, rfl, by omega, by omega, by omega, H0, Lib.hid (Below.refl _ _)⟩
  case round =>
    clear H0
    obtain ⟨t, m, rfl, rfl, ht, hm0, hm1, HM, HW⟩ := hrel
    by_cases hlt : t < n
    · have q2 : (0 : Int) ≤ t := by omega
      have q3 : (t : Int) < n := by omega
      by_cases hmb : m ≤ 2147483647
      · have htx : t < ls.length := by rw [HN.out]; exact hlt
        obtain ⟨bx, off, hxe, hxl, c0, c1, c2⟩ := (HL.out.below HW.out) t htx
        have HTK := Lib.hid (List.take_succ_eq_append_getElem htx)
        have hzz := HZ.out _ (List.getElem_mem htx)
        generalize ls[t] = l at c0 c1 c2 HTK hzz
        obtain ⟨lm, lt, ln⟩ := l
        simp only at c0 c1 c2 hzz
        unfold maxLen at hzz
        obtain ⟨z1, z2⟩ := hzz
        have HS : Hid (addI m (addI (addI lm.size 10) (4 * min (lt.size : Int) 2147483647)) = capB (wN (ls.take (t + 1)))) := Lib.hid (by rw [HM.out, HTK.out, wN_snoc]; exact weigh_step)
        have hA1 := addI_in (n := lm.size) (m := 10) (by omega) (by omega)
        have hA2 := addI_in (n := addI lm.size 10) (m := 4 * min (lt.size : Int) 2147483647) hA1.1 (by omega)
        have hA3 := addI_in (n := m) (m := addI (addI lm.size 10) (4 * min (lt.size : Int) 2147483647)) hm0 hA2.1
        have hw4 : IntKind.i64.wrap (4 * min (lt.size : Int) 2147483647) = 4 * min (lt.size : Int) 2147483647 := IntWalk.i64_in _ (by omega)
        have HD := Lib.hid (HW.out.trans ((below_drewN wr 1).mono HW.out.size))
        subst hxe
        clear c2 htx
        go_wp2
        go_region_held3 (fun w' => w'.cell? ⟨bx, off + t * 3, none⟩ = some (.string lm) ∧ w'.cell? ⟨bx, off + t * 3 + 1, none⟩ = some (.string lt)) (first | exact ⟨c0, c1⟩)
          (first | (go_at_call 8; (with_reducible refine (iadd_any _ _ _ (by omega) (by omega) (by omega) (by omega)).mono ?_); rintro e w' ⟨rfl, rfl⟩))
        all_goals
          go_wp2
          go_roundw
          case rel => exact ⟨t + 1, _, rfl, by go_num, by omega, hA3.1, hA3.2, HS, HD⟩
          case measure => simp [intOf]; omega
      · have HE : Hid (m = capB (wN ls)) := Lib.hid (by
          have h1 := HM.out
          have h2 := wN_take ls t
          unfold capB at h1 ⊢
          omega)
        go_wp2
        go_ret
        exact ⟨by rw [HE.out]; first | done | rfl, HW.out⟩
    · have HE : Hid (m = capB (wN ls)) := Lib.hid (by rw [HM.out, List.take_of_length_le (by rw [HN.out]; omega)])
      have q3 : ¬ (t : Int) < n := by omega
      go_wp2
      go_ret
      exact ⟨by rw [HE.out]; first | done | rfl, HW.out⟩

/-- Which of n things a raw number speaks of. -/
def pickI (c n : Int) : Int := (if c < 0 then -(c + 1) else c).tmod n
theorem pickI_in {c n : Int} (h : 0 < n) : 0 ≤ pickI c n ∧ pickI c n < n := by
  unfold pickI
  have h0 : 0 ≤ (if c < 0 then -(c + 1) else c) := by split <;> omega
  exact ⟨Int.tmod_nonneg _ h0, Int.tmod_lt_of_pos _ h⟩
set_option maxRecDepth 100000 in
theorem ipick_any (c n : Int) (w : World) (hn : 0 < n) (hn2 : n ≤ 9223372036854775807) (hc : -9223372036854775808 ≤ c) (hc2 : c ≤ 9223372036854775807) :
    Calls Tryd.prog 13 #[.int .i64 c, .int .i64 n] w fun e w' => e = .returned (.int .i64 (pickI c n)) ∧ w = w' := by
  have hn0 : ¬ n = 0 := by omega
  have hd0 : (n == 0) = false := by simpa using hn0
  by_cases h : c < 0
  · have h1 : IntKind.i64.wrap (c + 1) = c + 1 := IntWalk.i64_in _ (by omega)
    have h2 : IntKind.i64.wrap (-(c + 1)) = -(c + 1) := IntWalk.i64_in _ (by omega)
    have h3 : IntKind.i64.wrap ((-(c + 1)).tmod n) = (-(c + 1)).tmod n := IntWalk.i64_in _ (by
      have := Int.tmod_nonneg n (show 0 ≤ -(c + 1) by omega)
      have := Int.tmod_lt_of_pos (-(c + 1)) hn
      omega)
    rw [show pickI c n = (-(c + 1)).tmod n by unfold pickI; rw [if_pos h]]
    go_enter Tryd.func13, Tryd.ntmps13
    go_wp2
    go_ret
    exact ⟨by first | rfl | simp_all, rfl⟩
  · have h3 : IntKind.i64.wrap (c.tmod n) = c.tmod n := IntWalk.i64_in _ (by
      have := Int.tmod_nonneg n (show 0 ≤ c by omega)
      have := Int.tmod_lt_of_pos c hn
      omega)
    rw [show pickI c n = c.tmod n by unfold pickI; rw [if_neg h]]
    go_enter Tryd.func13, Tryd.ntmps13
    go_wp2
    go_ret
    exact ⟨by first | rfl | (simp_all; rw [Int.tmod_eq_emod_of_nonneg (by omega)]), rfl⟩
end Go.Proofs.YtbpbiakdigjcnaaDoor
