/-
  FlagLaw0.
-/
import Derived.Test.YtbgoooljkdjjhaaGreatDoorQFlagPrint
import Derived.Laws.StructEq
import Derived.Deep.RegionHeld3
namespace Go.Proofs.YtbgoooljkdjjhaaGreatDoor
open Go.ChangeShapes Go.WideShapes Go.ChangeAt Go.RowKit

/-- The sum, bounded. -/
def addJ (n m : Int) : Int := if m > 2147483647 - n then 2147483648 else n + m
theorem addJ_in {n m : Int} (h0 : 0 ≤ n) (h1 : 0 ≤ m) : 0 ≤ addJ n m ∧ addJ n m ≤ 2147483648 := by unfold addJ; split <;> omega
theorem addJ_cap {n m : Int} : addJ n m = min (n + m) 2147483648 := by unfold addJ; split <;> omega
set_option maxRecDepth 100000 in
theorem fadd_any (n m : Int) (w : World) (h0 : 0 ≤ n) (h1 : n ≤ 9223372036854775807) (h2 : 0 ≤ m) (h3 : m ≤ 9223372036854775807) :
    Calls Tryz.prog 8 #[.int .i64 n, .int .i64 m] w fun e w' => e = .returned (.int .i64 (addJ n m)) ∧ w = w' := by
  have hw : IntKind.i64.wrap (2147483647 - n) = 2147483647 - n := IntWalk.i64_in _ (by omega)
  by_cases h : m > 2147483647 - n
  · have q : 2147483647 - n < m := h
    rw [show addJ n m = 2147483648 by unfold addJ; rw [if_pos h]]
    clear h
    go_enter Tryz.func8, Tryz.ntmps8
    go_wp2
    go_ret
    exact ⟨rfl, rfl⟩
  · have q : ¬ 2147483647 - n < m := h
    have hw2 : IntKind.i64.wrap (n + m) = n + m := IntWalk.i64_in _ (by omega)
    rw [show addJ n m = n + m by unfold addJ; rw [if_neg h]]
    clear h
    go_enter Tryz.func8, Tryz.ntmps8
    go_wp2
    go_ret
    exact ⟨rfl, rfl⟩
/-- Which of n things a raw number speaks of. -/
def pickJ (c n : Int) : Int := (if c < 0 then -(c + 1) else c).tmod n
theorem pickJ_in {c n : Int} (h : 0 < n) : 0 ≤ pickJ c n ∧ pickJ c n < n := by
  unfold pickJ
  have h0 : 0 ≤ (if c < 0 then -(c + 1) else c) := by split <;> omega
  exact ⟨Int.tmod_nonneg _ h0, Int.tmod_lt_of_pos _ h⟩
set_option maxRecDepth 100000 in
theorem fpick_any (c n : Int) (w : World) (hn : 0 < n) (hn2 : n ≤ 9223372036854775807) (hc : -9223372036854775808 ≤ c) (hc2 : c ≤ 9223372036854775807) :
    Calls Tryz.prog 31 #[.int .i64 c, .int .i64 n] w fun e w' => e = .returned (.int .i64 (pickJ c n)) ∧ w = w' := by
  have hn0 : ¬ n = 0 := by omega
  have hd0 : (n == 0) = false := by simpa using hn0
  by_cases h : c < 0
  · have h1 : IntKind.i64.wrap (c + 1) = c + 1 := IntWalk.i64_in _ (by omega)
    have h2 : IntKind.i64.wrap (-(c + 1)) = -(c + 1) := IntWalk.i64_in _ (by omega)
    have h3 : IntKind.i64.wrap ((-(c + 1)).tmod n) = (-(c + 1)).tmod n := IntWalk.i64_in _ (by
      have := Int.tmod_nonneg n (show 0 ≤ -(c + 1) by omega)
      have := Int.tmod_lt_of_pos (-(c + 1)) hn
      omega)
    rw [show pickJ c n = (-(c + 1)).tmod n by unfold pickJ; rw [if_pos h]]
    go_enter Tryz.func31, Tryz.ntmps31
    go_wp2
    go_ret
    exact ⟨by first | rfl | simp_all, rfl⟩
  · have h3 : IntKind.i64.wrap (c.tmod n) = c.tmod n := IntWalk.i64_in _ (by
      have := Int.tmod_nonneg n (show 0 ≤ c by omega)
      have := Int.tmod_lt_of_pos c hn
      omega)
    rw [show pickJ c n = c.tmod n by unfold pickJ; rw [if_neg h]]
    go_enter Tryz.func31, Tryz.ntmps31
    go_wp2
    go_ret
    exact ⟨by first | rfl | (simp_all; rw [Int.tmod_eq_emod_of_nonneg (by omega)]), rfl⟩

set_option maxHeartbeats 1600000 in
set_option maxRecDepth 100000 in
theorem texts_any (ts : List ByteArray) (x y : Option Addr) (c d : Nat) (w : World) (ha : TxAt w x ts) (hb : TxAt w y ts) (hn : ts.length ≤ 4611686018427387904) :
    Calls Tryz.prog 13 #[.slice x ts.length c, .slice y ts.length d] w fun e w' => e = .returned (.bool true) ∧ Below w.heap.size w w' := by
  have HA := Lib.hid ha
  have HB := Lib.hid hb
  obtain ⟨n, hn'⟩ : ∃ n, ts.length = n := ⟨_, rfl⟩
  have HN := Lib.hid hn'
  rw [hn'] at hn ⊢
  clear ha hb hn'
  go_enter Tryz.func13, Tryz.ntmps13
  go_wp2
  go_loopw [5] (fun i wr => ∃ t : Nat, i = .int .i64 t ∧ t ≤ n ∧ Hid (Below w.heap.size w wr)) (fun i _ => n - (intOf i).toNat)
  case atStart => exact ⟨0, rfl, by omega, Lib.hid (Below.refl _ _)⟩
  case round =>
    obtain ⟨t, rfl, ht, HK⟩ := hrel
    by_cases hlt : t < n
    · have htx : t < ts.length := by rw [HN.out]; exact hlt
      obtain ⟨a', oa, ea, hal, a0⟩ := (HA.out.below HK.out) t htx
      obtain ⟨b', ob, eb, hbl, b0⟩ := (HB.out.below HK.out) t htx
      subst ea eb
      generalize ts[t] = k at a0 b0
      have q1 : (0 : Int) ≤ t := by omega
      have q2 : (t : Int) < n := by omega
      have HD := Lib.hid (HK.out.trans ((below_drewN wr 1).mono HK.out.size))
      clear htx
      go_wp2
      go_region
      all_goals
        go_wp2
        go_roundw
        case rel => exact ⟨t + 1, by go_num, by omega, HD⟩
        case measure => simp [intOf]; omega
    · have q2 : ¬ (t : Int) < n := by omega
      go_wp2
      go_ret
      exact ⟨rfl, HK.out⟩
theorem gneq_self (g : GivV) (w : World) : (binOp .neq 27 (.agg #[.string g.name, .string g.text, .int .i64 g.at_]) (.agg #[.string g.name, .string g.text, .int .i64 g.at_])).run Tryz.prog w = .ok (.bool false) w := by
  have u3 := Tryz.underlying3
  have u9 := Tryz.underlying9
  have hS : Tryz.prog.underlying 27 = some (.struct (Tryz.prog.fieldsOf 27)) := by kernel_rfl
  have hp : Tryz.prog.stoodInHeld 27 = false := by kernel_rfl
  rw [run_neq_struct, show (10000 : Nat) = 9999 + 1 from rfl, run_equalIn_agg w 9999 27 _ _ hS hp]
  simp only [Program.fieldsOf, Tryz.underlying27]
  go_simp
theorem gneq_guard (x y : Operand) (xs ys : Array Value) (w : World) : (eqGuard .neq 27 x y (.agg xs) (.agg ys)).run Tryz.prog w = .ok () w :=
  run_eqGuard_agg w .neq 27 x y xs ys (by kernel_rfl)
set_option maxHeartbeats 1600000 in
set_option maxRecDepth 100000 in
theorem givens_any (gs : List GivV) (x y : Option Addr) (c d : Nat) (w : World) (ha : Givs w x gs) (hb : Givs w y gs) (hn : gs.length ≤ 4611686018427387904) :
    Calls Tryz.prog 14 #[.slice x gs.length c, .slice y gs.length d] w fun e w' => e = .returned (.bool true) ∧ Below w.heap.size w w' := by
  have HA := Lib.hid ha
  have HB := Lib.hid hb
  obtain ⟨n, hn'⟩ : ∃ n, gs.length = n := ⟨_, rfl⟩
  have HN := Lib.hid hn'
  rw [hn'] at hn ⊢
  clear ha hb hn'
  go_enter Tryz.func14, Tryz.ntmps14
  go_wp2
  go_loopw [5] (fun i wr => ∃ t : Nat, i = .int .i64 t ∧ t ≤ n ∧ Hid (Below w.heap.size w wr)) (fun i _ => n - (intOf i).toNat)
  case atStart => exact ⟨0, rfl, by omega, Lib.hid (Below.refl _ _)⟩
  case round =>
    obtain ⟨t, rfl, ht, HK⟩ := hrel
    by_cases hlt : t < n
    · have htx : t < gs.length := by rw [HN.out]; exact hlt
      obtain ⟨a', oa, ea, hal, a0, a1, a2⟩ := (HA.out.below HK.out) t htx
      obtain ⟨b', ob, eb, hbl, b0, b1, b2⟩ := (HB.out.below HK.out) t htx
      subst ea eb
      generalize gs[t] = k at a0 a1 a2 b0 b1 b2
      have hne := gneq_self k
      have hgd := gneq_guard
      obtain ⟨kn, kt, kk⟩ := k
      simp only at a0 a1 a2 b0 b1 b2 hne
      have q1 : (0 : Int) ≤ t := by omega
      have q2 : (t : Int) < n := by omega
      have HD := Lib.hid (HK.out.trans ((below_drewN wr 1).mono HK.out.size))
      clear htx
      go_wp2
      go_region
      all_goals
        go_wp2
        go_roundw
        case rel => exact ⟨t + 1, by go_num, by omega, HD⟩
        case measure => simp [intOf]; omega
    · have q2 : ¬ (t : Int) < n := by omega
      go_wp2
      go_ret
      exact ⟨rfl, HK.out⟩

def wKey (k : KeyV) : Nat := k.name.size + 200 + k.dflt.size + k.letter.size
/-- What definitions weigh. -/
def wK (ls : List KeyV) : Nat := (ls.map wKey).sum
theorem wK_snoc (ls : List KeyV) (l : KeyV) : wK (ls ++ [l]) = wK ls + wKey l := by unfold wK; simp
theorem wK_take (ls : List KeyV) (k : Nat) : wK (ls.take k) ≤ wK ls := by
  conv => rhs; rw [← List.take_append_drop k ls]
  unfold wK
  rw [List.map_append, List.sum_append]; omega
theorem wK_mem {ls : List KeyV} {l : KeyV} (h : l ∈ ls) : wKey l ≤ wK ls := by
  induction ls with
  | nil => cases h
  | cons a r ih =>
    have e : wK (a :: r) = wKey a + wK r := by unfold wK; simp
    rw [e]
    rcases List.mem_cons.1 h with rfl | h
    · omega
    · have := ih h; omega
def capJ (n : Nat) : Int := min (n : Int) 2147483648
theorem capJ_in (n : Nat) : 0 ≤ capJ n ∧ capJ n ≤ 2147483648 := by unfold capJ; omega
theorem wkey_step {n a d l : Nat} : addJ (capJ n) (addJ (addJ a 200) (addJ d l)) = capJ (n + (a + 200 + d + l)) := by
  unfold capJ
  rw [addJ_cap (n := (a : Int)) (m := 200), addJ_cap (n := (d : Int)), addJ_cap (n := min ((a : Int) + 200) 2147483648), addJ_cap]
  omega
set_option maxHeartbeats 1600000 in
set_option maxRecDepth 100000 in
theorem fweight_any (x : Option Addr) (c : Nat) (ls : List KeyV) (w : World) (h : KeysAt w x ls) (hn : ls.length ≤ maxLen) (hz : ∀ l ∈ ls, l.name.size ≤ maxLen ∧ l.dflt.size ≤ maxLen ∧ l.letter.size ≤ maxLen) :
    Calls Tryz.prog 7 #[.slice x ls.length c, .slice none 0 0] w fun e w' => e = .returned (.int .i64 (capJ (wK ls))) ∧ Below w.heap.size w w' := by
  have HL := Lib.hid h
  have HZ := Lib.hid hz
  unfold maxLen at hn
  obtain ⟨n, hn'⟩ : ∃ n, ls.length = n := ⟨_, rfl⟩
  have HN := Lib.hid hn'
  rw [hn'] at hn ⊢
  have H0 : Hid ((0 : Int) = capJ (wK (ls.take 0))) := Lib.hid (by rw [List.take_zero]; show (0 : Int) = min ((0 : Nat) : Int) 2147483648; omega)
  clear h hz hn'
  go_enter Tryz.func7, Tryz.ntmps7
  go_wp2
  go_loopw [5, 6] (fun r i wr => ∃ (t : Nat) (m : Int), r = .int .i64 m ∧ i = .int .i64 t ∧ t ≤ n ∧ 0 ≤ m ∧ m ≤ 2147483648 ∧ Hid (m = capJ (wK (ls.take t))) ∧ Hid (Below w.heap.size w wr)) (fun _ i _ => n - (intOf i).toNat)
  case atStart => exact ⟨0, 0, rfl, rfl, by omega, by omega, by omega, H0, Lib.hid (Below.refl _ _)⟩
  case round =>
    clear H0
    obtain ⟨t, m, rfl, rfl, ht, hm0, hm1, HM, HW⟩ := hrel
    by_cases hlt : t < n
    · have q2 : (0 : Int) ≤ t := by omega
      have q3 : (t : Int) < n := by omega
      by_cases hmb : m ≤ 2147483647
      · have htx : t < ls.length := by rw [HN.out]; exact hlt
        obtain ⟨bx, off, hxe, hxl, c0, c1, c2, c3, c4, c5⟩ := (HL.out.below HW.out) t htx
        have HTK := Lib.hid (List.take_succ_eq_append_getElem htx)
        have hzz := HZ.out _ (List.getElem_mem htx)
        generalize ls[t] = l at c0 c1 c2 c3 c4 c5 HTK hzz
        obtain ⟨nm, kd, dl, la, lb, le⟩ := l
        simp only at c0 c1 c2 c3 c4 c5 hzz
        unfold maxLen at hzz
        obtain ⟨z1, z2, z3⟩ := hzz
        have HS : Hid (addJ m (addJ (addJ nm.size 200) (addJ dl.size le.size)) = capJ (wK (ls.take (t + 1)))) := Lib.hid (by rw [HM.out, HTK.out, wK_snoc]; exact wkey_step)
        have hA1 := addJ_in (n := nm.size) (m := 200) (by omega) (by omega)
        have hA2 := addJ_in (n := dl.size) (m := le.size) (by omega) (by omega)
        have hA3 := addJ_in (n := addJ nm.size 200) (m := addJ dl.size le.size) hA1.1 hA2.1
        have hA4 := addJ_in (n := m) (m := addJ (addJ nm.size 200) (addJ dl.size le.size)) hm0 hA3.1
        have HD := Lib.hid (HW.out.trans ((below_drewN wr 1).mono HW.out.size))
        subst hxe
        clear c1 c3 c4 htx
        go_wp2
        go_region_held3 (fun w' => w'.cell? ⟨bx, off + t * 6, none⟩ = some (.string nm) ∧ w'.cell? ⟨bx, off + t * 6 + 2, none⟩ = some (.string dl) ∧ w'.cell? ⟨bx, off + t * 6 + 5, none⟩ = some (.string le)) (first | exact ⟨c0, c2, c5⟩)
          (first | (go_at_call 8; (with_reducible refine (fadd_any _ _ _ (by omega) (by omega) (by omega) (by omega)).mono ?_); rintro e w' ⟨rfl, rfl⟩))
        all_goals
          go_wp2
          go_roundw
          case rel => exact ⟨t + 1, _, rfl, by go_num, by omega, hA4.1, hA4.2, HS, HD⟩
          case measure => simp [intOf]; omega
      · have HE : Hid (m = capJ (wK ls)) := Lib.hid (by
          have h1 := HM.out
          have h2 := wK_take ls t
          unfold capJ at h1 ⊢
          omega)
        go_wp2
        go_loopw [5, 7] (fun r i wq => r = .int .i64 m ∧ i = .int .i64 0 ∧ Hid (Below w.heap.size w wq)) (fun _ _ _ => 0)
        case atStart => exact ⟨rfl, rfl, HW⟩
        case round =>
          obtain ⟨rfl, rfl, HW2⟩ := hrel
          go_wp2
          go_ret
          exact ⟨by rw [HE.out]; first | done | rfl, HW2.out⟩
    · have HE : Hid (m = capJ (wK ls)) := Lib.hid (by rw [HM.out, List.take_of_length_le (by rw [HN.out]; omega)])
      have q3 : ¬ (t : Int) < n := by omega
      go_wp2
      go_loopw [5, 7] (fun r i wq => r = .int .i64 m ∧ i = .int .i64 0 ∧ Hid (Below w.heap.size w wq)) (fun _ _ _ => 0)
      case atStart => exact ⟨rfl, rfl, HW⟩
      case round =>
        obtain ⟨rfl, rfl, HW2⟩ := hrel
        go_wp2
        go_ret
        exact ⟨by rw [HE.out]; first | done | rfl, HW2.out⟩
end Go.Proofs.YtbgoooljkdjjhaaGreatDoor
