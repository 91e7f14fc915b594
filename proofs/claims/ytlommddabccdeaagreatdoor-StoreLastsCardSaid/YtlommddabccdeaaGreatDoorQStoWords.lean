/-
  StpDoes, StpRef1, StpSame, StoLaw0, StoWords.
-/
import Derived.Test.YtlommddabccdeaaGreatDoorQStpMath
import Derived.Test.YtlommddabccdeaaGreatDoorQPrKit
import Derived.Deep.RegionHeld3
import Derived.Laws.StructEq
namespace Go.Proofs.YtlommddabccdeaaGreatDoor

/-! The functions of values -/
/-! Steps -/
/-! What is known of it -/
end Go.Proofs.YtlommddabccdeaaGreatDoor

namespace Go.Proofs.YtlommddabccdeaaGreatDoor
open Go.ChangeShapes Go.WideShapes Go.ChangeAt Go.RowKit

abbrev pV (p : PairV) : Value := .agg #[.string p.table, .string p.key, .string p.value]
theorem below_d (w : World) : Below w.heap.size w w.drew := (Below.refl _ w).drew
end Go.Proofs.YtlommddabccdeaaGreatDoor

namespace Go.Proofs.YtlommddabccdeaaGreatDoor
open Go.ChangeShapes Go.WideShapes Go.ChangeAt Go.RowKit

def eqPr (p q : PairV) : Bool := (p.table.toList == q.table.toList) && ((p.key.toList == q.key.toList) && (p.value.toList == q.value.toList))
theorem eqPr_iff {p q : PairV} : eqPr p q = true ↔ p = q := by
 unfold eqPr
 rw [Bool.and_eq_true, Bool.and_eq_true]
 constructor
 ·rintro ⟨h1, h2, h3⟩
  have e1 := eqB_iff.1 (show eqB p.table q.table = true from h1)
  have e2 := eqB_iff.1 (show eqB p.key q.key = true from h2)
  have e3 := eqB_iff.1 (show eqB p.value q.value = true from h3)
  cases p; cases q; simp_all
 ·rintro rfl; simp
def sameB : List PairV → List PairV → Bool
 | [], [] => true
 | p :: a, q :: b => eqPr p q && sameB a b
 | _, _ => false
theorem sameB_iff : ∀ {a b : List PairV}, sameB a b = true ↔ a = b
 | [], [] => by simp [sameB]
 | [], _ :: _ => by simp [sameB]
 | _ :: _, [] => by simp [sameB]
 | p :: a, q :: b => by
  unfold sameB
  rw [Bool.and_eq_true, eqPr_iff, sameB_iff, List.cons.injEq]
theorem sameB_self (a : List PairV) : sameB a a = true := sameB_iff.2 rfl
theorem sameB_no {a b : List PairV} (h : a ≠ b) : sameB a b = false := by
 cases e : sameB a b with
 | false => rfl
 | true => exact absurd (sameB_iff.1 e) h
theorem structPr : Tryz.prog.underlying 42 = some (.struct (Tryz.prog.fieldsOf 42)) := by kernel_rfl
theorem stoodPr : Tryz.prog.stoodInHeld 42 = false := by kernel_rfl
theorem neqPr (a b c a' b' c' : ByteArray) (w : World) : (binOp .neq 42 (.agg #[.string a, .string b, .string c]) (.agg #[.string a', .string b', .string c'])).run Tryz.prog w = .ok (.bool (!eqPr ⟨a, b, c⟩ ⟨a', b', c'⟩)) w := by
 have u9 := Tryz.underlying9
 rw [run_neq_struct, show (10000 : Nat) = 9999 + 1 from rfl, run_equalIn_agg w 9999 42 _ _ structPr stoodPr]
 simp only [Program.fieldsOf, Tryz.underlying42]
 unfold eqPr
 dsimp only
 cases h1 : (a.toList == a'.toList) <;> cases h2 : (b.toList == b'.toList) <;> cases h3 : (c.toList == c'.toList) <;> go_simp
theorem neqPr_guard (x y : Operand) (xs ys : Array Value) (w : World) : (eqGuard .neq 42 x y (.agg xs) (.agg ys)).run Tryz.prog w = .ok () w :=
 run_eqGuard_agg w .neq 42 x y xs ys (by kernel_rfl)
theorem same_at {us vs : List PairV} (hl : us.length = vs.length) (h : ∀ j (h1 : j < us.length), eqPr us[j] (vs[j]'(by omega)) = true) : us = vs := by
 refine List.ext_getElem hl fun j h1 h2 => eqPr_iff.1 (h j h1)
end Go.Proofs.YtlommddabccdeaaGreatDoor

namespace Go.Proofs.YtlommddabccdeaaGreatDoor
open Go.ChangeShapes Go.WideShapes Go.ChangeAt Go.RowKit

def addS (n m : Int) : Int := if m > 2147483647 - n then 2147483648 else n + m
theorem addS_in {n m : Int} (h0 : 0 ≤ n) (h1 : 0 ≤ m) : 0 ≤ addS n m ∧ addS n m ≤ 2147483648 := by unfold addS; split <;> omega
theorem addS_cap {n m : Int} : addS n m = min (n + m) 2147483648 := by unfold addS; split <;> omega
set_option maxRecDepth 100000 in
theorem sadd_any (n m : Int) (w : World) (h0 : 0 ≤ n) (h1 : n ≤ 9223372036854775807) (h2 : 0 ≤ m) (h3 : m ≤ 9223372036854775807) :
  Calls Tryz.prog 4 #[.int .i64 n, .int .i64 m] w fun e w' => e = .returned (.int .i64 (addS n m)) ∧ w = w' := by
 have hw : IntKind.i64.wrap (2147483647 - n) = 2147483647 - n := IntWalk.i64_in _ (by omega)
 by_cases h : m > 2147483647 - n
 ·have q : 2147483647 - n < m := h
  rw [show addS n m = 2147483648 by unfold addS; rw [if_pos h]]
  clear h
  go_enter Tryz.func4, Tryz.ntmps4
  go_wp2
  go_ret
  exact ⟨rfl, rfl⟩
 ·have q : ¬ 2147483647 - n < m := h
  have hw2 : IntKind.i64.wrap (n + m) = n + m := IntWalk.i64_in _ (by omega)
  rw [show addS n m = n + m by unfold addS; rw [if_neg h]]
  clear h
  go_enter Tryz.func4, Tryz.ntmps4
  go_wp2
  go_ret
  exact ⟨rfl, rfl⟩
def pickS (c n : Int) : Int := (if c < 0 then -(c + 1) else c).tmod n
theorem pickS_in {c n : Int} (h : 0 < n) : 0 ≤ pickS c n ∧ pickS c n < n := by
 unfold pickS
 have h0 : 0 ≤ (if c < 0 then -(c + 1) else c) := by split <;> omega
 exact ⟨Int.tmod_nonneg _ h0, Int.tmod_lt_of_pos _ h⟩
set_option maxRecDepth 100000 in
theorem spick_any (c n : Int) (w : World) (hn : 0 < n) (hn2 : n ≤ 9223372036854775807) (hc : -9223372036854775808 ≤ c) (hc2 : c ≤ 9223372036854775807) :
  Calls Tryz.prog 7 #[.int .i64 c, .int .i64 n] w fun e w' => e = .returned (.int .i64 (pickS c n)) ∧ w = w' := by
 have hn0 : ¬ n = 0 := by omega
 have hd0 : (n == 0) = false := by simpa using hn0
 by_cases h : c < 0
 ·have h1 : IntKind.i64.wrap (c + 1) = c + 1 := IntWalk.i64_in _ (by omega)
  have h2 : IntKind.i64.wrap (-(c + 1)) = -(c + 1) := IntWalk.i64_in _ (by omega)
  have h3 : IntKind.i64.wrap ((-(c + 1)).tmod n) = (-(c + 1)).tmod n := IntWalk.i64_in _ (by
   have := Int.tmod_nonneg n (show 0 ≤ -(c + 1) by omega)
   have := Int.tmod_lt_of_pos (-(c + 1)) hn
   omega)
  rw [show pickS c n = (-(c + 1)).tmod n by unfold pickS; rw [if_pos h]]
  go_enter Tryz.func7, Tryz.ntmps7
  go_wp2
  go_ret
  exact ⟨by first | rfl | simp_all, rfl⟩
 ·have h3 : IntKind.i64.wrap (c.tmod n) = c.tmod n := IntWalk.i64_in _ (by
   have := Int.tmod_nonneg n (show 0 ≤ c by omega)
   have := Int.tmod_lt_of_pos c hn
   omega)
  rw [show pickS c n = c.tmod n by unfold pickS; rw [if_neg h]]
  go_enter Tryz.func7, Tryz.ntmps7
  go_wp2
  go_ret
  exact ⟨by first | rfl | (simp_all; rw [Int.tmod_eq_emod_of_nonneg (by omega)]), rfl⟩
set_option maxHeartbeats 1600000 in
set_option maxRecDepth 100000 in
theorem spairs_any (us vs : List PairV) (x y : Option Addr) (n m c d : Nat) (w : World) (ha : PrsAt w x us) (hb : PrsAt w y vs) (hn : us.length = n) (hm : vs.length = m) (hl : n ≤ 2147483647) :
  Calls Tryz.prog 19 #[.slice x n c, .slice y m d] w fun e w' => e = .returned (.bool (sameB us vs)) ∧ Below w.heap.size w w' := by
 by_cases hnm : n = m
 ·subst hnm
  have HA := Lib.hid ha
  have HB := Lib.hid hb
  have HN := Lib.hid hn
  have HM := Lib.hid hm
  clear ha hb hn hm
  go_enter Tryz.func19, Tryz.ntmps19
  go_wp2
  go_loopw [5] (fun i wr => ∃ t : Nat, i = .int .i64 t ∧ t ≤ n ∧ Hid (Below w.heap.size w wr ∧ ∀ j (h1 : j < us.length) (h2 : j < vs.length), j < t → eqPr us[j] vs[j] = true)) (fun i _ => n - (intOf i).toNat)
  case atStart => exact ⟨0, rfl, by omega, Lib.hid ⟨Below.refl _ _, fun j _ _ hj => by omega⟩⟩
  case round =>
   obtain ⟨t, rfl, ht, HI⟩ := hrel
   by_cases hlt : t < n
   ·have hta : t < us.length := by rw [HN.out]; exact hlt
    have htb : t < vs.length := by rw [HM.out]; exact hlt
    obtain ⟨p, po, hx, _, a0, a1, a2⟩ := (HA.out.below HI.out.1) t hta
    obtain ⟨q, qo, hy, _, b0, b1, b2⟩ := (HB.out.below HI.out.1) t htb
    have q1 : (0 : Int) ≤ t := by omega
    have q2 : (t : Int) < n := by omega
    have HE : Hid (∀ B, eqPr us[t] vs[t] = B → (B = true → ∀ j (h1 : j < us.length) (h2 : j < vs.length), j < t + 1 → eqPr us[j] vs[j] = true) ∧ (B = false → sameB us vs = false)) := Lib.hid fun B hB => ⟨fun hb j h1 h2 hj => by
      rcases Nat.lt_or_ge j t with h | h
      ·exact HI.out.2 j h1 h2 h
      ·obtain rfl : j = t := by omega
       rw [hB, hb], fun hb => sameB_no fun e => by subst e; rw [eqPr_iff.2 rfl] at hB; rw [hb] at hB; cases hB⟩
    have HBD := Lib.hid (HI.out.1.trans ((below_d wr).mono HI.out.1.size))
    generalize us[t] = P at a0 a1 a2 HE
    generalize vs[t] = Q at b0 b1 b2 HE
    obtain ⟨pt, pk, pv⟩ := P
    obtain ⟨qt, qk, qv⟩ := Q
    dsimp only at a0 a1 a2 b0 b1 b2
    have hne := neqPr pt pk pv qt qk qv
    have hgd := neqPr_guard
    obtain ⟨B, hB⟩ : ∃ B, eqPr ⟨pt, pk, pv⟩ ⟨qt, qk, qv⟩ = B := ⟨_, rfl⟩
    rw [hB] at hne
    have HE2 := Lib.hid (HE.out B hB)
    clear hB HE hta htb HI
    subst hx hy
    cases B with
    | true =>
     have HE3 := Lib.hid (HE2.out.1 rfl)
     rw [Bool.not_true] at hne
     clear HE2
     go_wp2
     go_region
     all_goals
      go_wp2
      go_roundw
      case rel => exact ⟨t + 1, by go_num, by omega, Lib.hid ⟨HBD.out, HE3.out⟩⟩
      case measure => simp [intOf]; omega
    | false =>
     have HE3 := Lib.hid (HE2.out.2 rfl)
     rw [Bool.not_false] at hne
     clear HE2
     go_wp2
     go_region
     all_goals
      go_wp2
      go_ret
      exact ⟨by rw [HE3.out]; rfl, HBD.out⟩
   ·have HE3 : Hid (sameB us vs = true) := Lib.hid (sameB_iff.2 (same_at (by rw [HN.out, HM.out]) fun j h1 => HI.out.2 j h1 (by have := HM.out; have := HN.out; omega) (by have := HN.out; omega)))
    have HBD := Lib.hid HI.out.1
    have q2 : ¬ (t : Int) < n := by omega
    clear HI
    go_wp2
    go_ret
    exact ⟨by rw [HE3.out]; rfl, HBD.out⟩
 ·have hv : sameB us vs = false := sameB_no fun e => hnm (by rw [← hn, ← hm, e])
  have g1 : ((n : Int) == m) = false := by rw [beq_eq_false_iff_ne]; omega
  have g2 : ((n : Int) != m) = true := by rw [bne, g1]; rfl
  rw [hv]
  clear hv hnm hn hm ha hb
  go_enter Tryz.func19, Tryz.ntmps19
  go_wp2
  go_ret
  exact ⟨rfl, Below.refl _ _⟩
def aheadP (p : PairV) (t k : ByteArray) : Bool := lessP p ⟨t, k, emB⟩
set_option maxHeartbeats 1600000 in
theorem sless_any (p : PairV) (t k : ByteArray) (w : World) :
  Calls Tryz.prog 27 #[pV p, .string t, .string k] w fun e w' => e = .returned (.bool (aheadP p t k)) ∧ Below w.heap.size w w' := by
 obtain ⟨pt, pk, pv⟩ := p
 unfold aheadP lessP ltB eqB pV
 dsimp only
 cases h1 : Op.bytesLess pt.toList t.toList
 ·cases h2 : pt.toList == t.toList
  ·go_enter Tryz.func27, Tryz.ntmps27
   go_wp2
   go_ret
   exact ⟨rfl, below_one _ _⟩
  ·cases h3 : Op.bytesLess pk.toList k.toList
   ·go_enter Tryz.func27, Tryz.ntmps27
    go_wp2
    go_ret
    exact ⟨rfl, below_one _ _⟩
   ·go_enter Tryz.func27, Tryz.ntmps27
    go_wp2
    go_ret
    exact ⟨rfl, below_one _ _⟩
 ·go_enter Tryz.func27, Tryz.ntmps27
  go_wp2
  go_ret
  exact ⟨rfl, below_one _ _⟩
end Go.Proofs.YtlommddabccdeaaGreatDoor

namespace Go.Proofs.YtlommddabccdeaaGreatDoor
open Go.ChangeShapes Go.WideShapes Go.ChangeAt Go.RowKit

structure TurnV where
 t : Int
 k : Int
 v : ByteArray
 gone : Bool
 ends : Bool
def tuV (x : TurnV) : Value := .agg #[.int .i64 x.t, .int .i64 x.k, .string x.v, .bool x.gone, .bool x.ends]
def wordOf2 (a : UInt8) (n : Int) : ByteArray := ⟨#[a, UInt8.ofNat (97 + n.toNat)]⟩
def tabOf (x : TurnV) : ByteArray := wordOf2 116 (pickS x.t 3)
def keyOf (x : TurnV) : ByteArray := wordOf2 107 (pickS x.k 20)
theorem conv_one {W : World} {g c : Nat} {X : Int} {m : Nat} (hX : X = ((97 + m : Nat) : Int)) (hm : m < 100) (h : W.cell? ⟨g, 0, none⟩ = some (.int .u8 X)) : (convert 63 9 (.slice (some ⟨g, 0, none⟩) 1 c)).run Tryz.prog W = .ok (.string ⟨#[UInt8.ofNat (97 + m)]⟩) W :=
 run_convert_bytes_back W 63 9 5 ⟨g, 0, none⟩ c [UInt8.ofNat (97 + m)] Tryz.underlying63 Tryz.underlying5 Tryz.underlying9 fun j hj => by
  have : j = 0 := by simp at hj; omega
  subst this
  rw [add_zero_at, h, hX]
  have : (UInt8.ofNat (97 + m)).toNat = 97 + m := by rw [UInt8.toNat_ofNat']; omega
  show some (Value.int .u8 ((97 + m : Nat) : Int)) = some (Value.int .u8 ((UInt8.ofNat (97 + m)).toNat : Int))
  rw [this]
set_option maxHeartbeats 3200000 in
theorem words_any (x : TurnV) (w : World) (ht : -9223372036854775808 ≤ x.t) (ht2 : x.t ≤ 9223372036854775807) (hk : -9223372036854775808 ≤ x.k) (hk2 : x.k ≤ 9223372036854775807) :
  Calls Tryz.prog 10 #[tuV x] w fun e w' => e = .returned (.tuple #[.string (tabOf x), .string (keyOf x)]) ∧ Below w.heap.size w w' := by
 obtain ⟨a0, a1⟩ := pickS_in (c := x.t) (n := 3) (by decide)
 obtain ⟨b0, b1⟩ := pickS_in (c := x.k) (n := 20) (by decide)
 have HP1 : Hid (∀ W, Calls Tryz.prog 7 #[.int .i64 x.t, .int .i64 3] W fun e w' => e = .returned (.int .i64 (pickS x.t 3)) ∧ W = w') := Lib.hid fun W => spick_any x.t 3 W (by decide) (by decide) ht ht2
 have HP2 : Hid (∀ W, Calls Tryz.prog 7 #[.int .i64 x.k, .int .i64 20] W fun e w' => e = .returned (.int .i64 (pickS x.k 20)) ∧ W = w') := Lib.hid fun W => spick_any x.k 20 W (by decide) (by decide) hk hk2
 unfold tabOf keyOf
 obtain ⟨P1, hP1⟩ : ∃ P1, pickS x.t 3 = P1 := ⟨_, rfl⟩
 obtain ⟨P2, hP2⟩ : ∃ P2, pickS x.k 20 = P2 := ⟨_, rfl⟩
 rw [hP1] at a0 a1 HP1 ⊢
 rw [hP2] at b0 b1 HP2 ⊢
 have hw1 : IntKind.i64.wrap (97 + P1) = 97 + P1 := IntWalk.i64_in _ (by omega)
 have hw2 : IntKind.i64.wrap (97 + P2) = 97 + P2 := IntWalk.i64_in _ (by omega)
 have hu1 : IntKind.u8.wrap (97 + P1) = 97 + P1 := IntWalk.u8_in _ (by omega)
 have hu2 : IntKind.u8.wrap (97 + P2) = 97 + P2 := IntWalk.u8_in _ (by omega)
 have hc1 : ∀ (W : World) (g c : Nat), W.cell? ⟨g, 0, none⟩ = some (.int .u8 (97 + P1)) → (convert 63 9 (.slice (some ⟨g, 0, none⟩) 1 c)).run Tryz.prog W = .ok (.string ⟨#[UInt8.ofNat (97 + P1.toNat)]⟩) W := fun W g c h => conv_one (by omega) (by omega) h
 have hc2 : ∀ (W : World) (g c : Nat), W.cell? ⟨g, 0, none⟩ = some (.int .u8 (97 + P2)) → (convert 63 9 (.slice (some ⟨g, 0, none⟩) 1 c)).run Tryz.prog W = .ok (.string ⟨#[UInt8.ofNat (97 + P2.toNat)]⟩) W := fun W g c h => conv_one (by omega) (by omega) h
 have HE1 : Hid ((⟨#[116]⟩ : ByteArray) ++ ⟨#[UInt8.ofNat (97 + P1.toNat)]⟩ = wordOf2 116 P1) := Lib.hid rfl
 have HE2 : Hid ((⟨#[107]⟩ : ByteArray) ++ ⟨#[UInt8.ofNat (97 + P2.toNat)]⟩ = wordOf2 107 P2) := Lib.hid rfl
 obtain ⟨S1, hS1⟩ : ∃ S1 : ByteArray, (⟨#[UInt8.ofNat (97 + P1.toNat)]⟩ : ByteArray) = S1 := ⟨_, rfl⟩
 obtain ⟨S2, hS2⟩ : ∃ S2 : ByteArray, (⟨#[UInt8.ofNat (97 + P2.toNat)]⟩ : ByteArray) = S2 := ⟨_, rfl⟩
 have z1 : S1.size = 1 := by rw [← hS1]; rfl
 have z2 : S2.size = 1 := by rw [← hS2]; rfl
 rw [hS1] at hc1 HE1
 rw [hS2] at hc2 HE2
 obtain ⟨X1, hX1⟩ : ∃ X1, 97 + P1 = X1 := ⟨_, rfl⟩
 obtain ⟨X2, hX2⟩ : ∃ X2, 97 + P2 = X2 := ⟨_, rfl⟩
 rw [hX1] at hu1 hc1
 rw [hX2] at hu2 hc2
 replace hw1 : IntKind.i64.wrap (97 + P1) = X1 := hw1.trans hX1
 replace hw2 : IntKind.i64.wrap (97 + P2) = X2 := hw2.trans hX2
 clear a0 a1 b0 b1 ht ht2 hk hk2 hP1 hP2 hS1 hS2 hX1 hX2
 obtain ⟨T, K, V, g, en⟩ := x
 unfold tuV
 simp only at HP1 HP2 ⊢
 have HB0 : Hid (∀ t, Below w.heap.size w (w.alloc (.cells #[.int .i64 T, .int .i64 K, .string V, .bool g, .bool en] t)).drew) := Lib.hid fun t => ((Below.refl _ w).alloc (Nat.le_refl _) _).drew
 have HBB : Hid (∀ o p t, Below w.heap.size w (((w.alloc (.cells #[.int .i64 T, .int .i64 K, .string V, .bool g, .bool en] t)).drew.alloc o).alloc p)) := Lib.hid fun o p t => (((HB0.out t).alloc (HB0.out t).size o).alloc (((HB0.out t).alloc (HB0.out t).size o).size) p)
 go_enter Tryz.func10, Tryz.ntmps10
 go_wp2
 go_region_law (first
  | (go_simp; (with_reducible refine (HP1.out _).mono ?_); rintro e w2 ⟨rfl, rfl⟩; dsimp only)
  | (go_simp; (with_reducible refine (HP2.out _).mono ?_); rintro e w2 ⟨rfl, rfl⟩; dsimp only))
 all_goals
  go_wp2
  go_ret2
  exact ⟨by rw [← HE1.out, ← HE2.out]; rfl, HBB.out _ _ _⟩
end Go.Proofs.YtlommddabccdeaaGreatDoor
