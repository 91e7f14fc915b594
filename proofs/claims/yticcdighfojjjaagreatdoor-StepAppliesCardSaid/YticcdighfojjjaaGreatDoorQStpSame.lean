/-
  StpSame.
-/
import Derived.Test.YticcdighfojjjaaGreatDoorQStpRef1
import Derived.Laws.StructEq
namespace Go.Proofs.YticcdighfojjjaaGreatDoor
open Go.ChangeShapes Go.WideShapes Go.ChangeAt Go.RowKit

def eqPr (p q : PairV) : Bool := (p.table.toList == q.table.toList) && ((p.key.toList == q.key.toList) && (p.value.toList == q.value.toList))
theorem eqPr_iff {p q : PairV} : eqPr p q = true ↔ p = q := by
  unfold eqPr
  rw [Bool.and_eq_true, Bool.and_eq_true]
  constructor
  · rintro ⟨h1, h2, h3⟩
    have e1 := eqB_iff.1 (show eqB p.table q.table = true from h1)
    have e2 := eqB_iff.1 (show eqB p.key q.key = true from h2)
    have e3 := eqB_iff.1 (show eqB p.value q.value = true from h3)
    cases p; cases q; simp_all
  · rintro rfl; simp
def sameB : List PairV → List PairV → Bool
  | [], [] => true
  | p :: a, q :: b => eqPr p q && sameB a b
  | _, _ => false
theorem sameB_iff : ∀ {a b : List PairV}, sameB a b = true ↔ a = b
  | [], [] => by simp [sameB]
  | [], _ :: _ => by simp [sameB]
  | _ :: _, [] => by simp [sameB]
  | p :: a, q :: b => by
    unfold sameB
    rw [Bool.and_eq_true, eqPr_iff, sameB_iff, List.cons.injEq]
theorem sameB_self (a : List PairV) : sameB a a = true := sameB_iff.2 rfl
theorem sameB_no {a b : List PairV} (h : a ≠ b) : sameB a b = false := by
  cases e : sameB a b with
  | false => rfl
  | true => exact absurd (sameB_iff.1 e) h
theorem structPr : Tryz.prog.underlying 51 = some (.struct (Tryz.prog.fieldsOf 51)) := by kernel_rfl
theorem stoodPr : Tryz.prog.stoodInHeld 51 = false := by kernel_rfl
theorem neqPr (a b c a' b' c' : ByteArray) (w : World) : (binOp .neq 51 (.agg #[.string a, .string b, .string c]) (.agg #[.string a', .string b', .string c'])).run Tryz.prog w = .ok (.bool (!eqPr ⟨a, b, c⟩ ⟨a', b', c'⟩)) w := by
  have u9 := Tryz.underlying9
  rw [run_neq_struct, show (10000 : Nat) = 9999 + 1 from rfl, run_equalIn_agg w 9999 51 _ _ structPr stoodPr]
  simp only [Program.fieldsOf, Tryz.underlying51]
  unfold eqPr
  dsimp only
  cases h1 : (a.toList == a'.toList) <;> cases h2 : (b.toList == b'.toList) <;> cases h3 : (c.toList == c'.toList) <;> go_simp
theorem neqPr_guard (x y : Operand) (xs ys : Array Value) (w : World) : (eqGuard .neq 51 x y (.agg xs) (.agg ys)).run Tryz.prog w = .ok () w :=
  run_eqGuard_agg w .neq 51 x y xs ys (by kernel_rfl)
theorem eqlPr (a b c a' b' c' : ByteArray) (w : World) : (binOp .eql 51 (.agg #[.string a, .string b, .string c]) (.agg #[.string a', .string b', .string c'])).run Tryz.prog w = .ok (.bool (eqPr ⟨a, b, c⟩ ⟨a', b', c'⟩)) w := by
  have u9 := Tryz.underlying9
  rw [run_eql_struct, show (10000 : Nat) = 9999 + 1 from rfl, run_equalIn_agg w 9999 51 _ _ structPr stoodPr]
  simp only [Program.fieldsOf, Tryz.underlying51]
  unfold eqPr
  dsimp only
  cases h1 : (a.toList == a'.toList) <;> cases h2 : (b.toList == b'.toList) <;> cases h3 : (c.toList == c'.toList) <;> go_simp
theorem eqlPr_guard (x y : Operand) (xs ys : Array Value) (w : World) : (eqGuard .eql 51 x y (.agg xs) (.agg ys)).run Tryz.prog w = .ok () w :=
  run_eqGuard_agg w .eql 51 x y xs ys (by kernel_rfl)
theorem same_at {us vs : List PairV} (hl : us.length = vs.length) (h : ∀ j (h1 : j < us.length), eqPr us[j] (vs[j]'(by omega)) = true) : us = vs := by
  refine List.ext_getElem hl fun j h1 h2 => eqPr_iff.1 (h j h1)
set_option maxHeartbeats 1600000 in
set_option maxRecDepth 100000 in
theorem lsame_any (us vs : List PairV) (x y : Option Addr) (n m c d : Nat) (w : World) (ha : PrsAt w x us) (hb : PrsAt w y vs) (hn : us.length = n) (hm : vs.length = m) (hl : n ≤ 2147483647) :
    Calls Tryz.prog 27 #[.slice x n c, .slice y m d] w fun e w' => e = .returned (.bool (sameB us vs)) ∧ Below w.heap.size w w' := by
  by_cases hnm : n = m
  · subst hnm
    have HA := Lib.hid ha
    have HB := Lib.hid hb
    have HN := Lib.hid hn
    have HM := Lib.hid hm
    clear ha hb hn hm
    go_enter Tryz.func27, Tryz.ntmps27
    go_wp2
    go_loopw [5] (fun i wr => ∃ t : Nat, i = .int .i64 t ∧ t ≤ n ∧ Hid (Below w.heap.size w wr ∧ ∀ j (h1 : j < us.length) (h2 : j < vs.length), j < t → eqPr us[j] vs[j] = true)) (fun i _ => n - (intOf i).toNat)
    case atStart => exact ⟨0, rfl, by omega, Lib.hid ⟨Below.refl _ _, fun j _ _ hj => by omega⟩⟩
    case round =>
      obtain ⟨t, rfl, ht, HI⟩ := hrel
      by_cases hlt : t < n
      · have hta : t < us.length := by rw [HN.out]; exact hlt
        have htb : t < vs.length := by rw [HM.out]; exact hlt
        obtain ⟨p, po, hx, _, a0, a1, a2⟩ := (HA.out.below HI.out.1) t hta
        obtain ⟨q, qo, hy, _, b0, b1, b2⟩ := (HB.out.below HI.out.1) t htb
        have q1 : (0 : Int) ≤ t := by omega
        have q2 : (t : Int) < n := by omega
        have HE : Hid (∀ B, eqPr us[t] vs[t] = B → (B = true → ∀ j (h1 : j < us.length) (h2 : j < vs.length), j < t + 1 → eqPr us[j] vs[j] = true) ∧ (B = false → sameB us vs = false)) := Lib.hid fun B hB => ⟨fun hb j h1 h2 hj => by
            rcases Nat.lt_or_ge j t with h | h
            · exact HI.out.2 j h1 h2 h
            · obtain rfl : j = t := by omega
              rw [hB, hb], fun hb => sameB_no fun e => by subst e; rw [eqPr_iff.2 rfl] at hB; rw [hb] at hB; cases hB⟩
        have HBD := Lib.hid (HI.out.1.trans ((below_d wr).mono HI.out.1.size))
        generalize us[t] = P at a0 a1 a2 HE
        generalize vs[t] = Q at b0 b1 b2 HE
        obtain ⟨pt, pk, pv⟩ := P
        obtain ⟨qt, qk, qv⟩ := Q
        dsimp only at a0 a1 a2 b0 b1 b2
        have hne := neqPr pt pk pv qt qk qv
        have hgd := neqPr_guard
        obtain ⟨B, hB⟩ : ∃ B, eqPr ⟨pt, pk, pv⟩ ⟨qt, qk, qv⟩ = B := ⟨_, rfl⟩
        rw [hB] at hne
        have HE2 := Lib.hid (HE.out B hB)
        clear hB HE hta htb HI
        subst hx hy
        cases B with
        | true =>
          have HE3 := Lib.hid (HE2.out.1 rfl)
          rw [Bool.not_true] at hne
          clear HE2
          go_wp2
          go_region
          all_goals
            go_wp2
            go_roundw
            case rel => exact ⟨t + 1, by go_num, by omega, Lib.hid ⟨HBD.out, HE3.out⟩⟩
            case measure => simp [intOf]; omega
        | false =>
          have HE3 := Lib.hid (HE2.out.2 rfl)
          rw [Bool.not_false] at hne
          clear HE2
          go_wp2
          go_region
          all_goals
            go_wp2
            go_ret
            exact ⟨by rw [HE3.out]; rfl, HBD.out⟩
      · have HE3 : Hid (sameB us vs = true) := Lib.hid (sameB_iff.2 (same_at (by rw [HN.out, HM.out]) fun j h1 => HI.out.2 j h1 (by have := HM.out; have := HN.out; omega) (by have := HN.out; omega)))
        have HBD := Lib.hid HI.out.1
        have q2 : ¬ (t : Int) < n := by omega
        clear HI
        go_wp2
        go_ret
        exact ⟨by rw [HE3.out]; rfl, HBD.out⟩
  · have hv : sameB us vs = false := sameB_no fun e => hnm (by rw [← hn, ← hm, e])
    have g1 : ((n : Int) == m) = false := by rw [beq_eq_false_iff_ne]; omega
    have g2 : ((n : Int) != m) = true := by rw [bne, g1]; rfl
    rw [hv]
    clear hv hnm hn hm ha hb
    go_enter Tryz.func27, Tryz.ntmps27
    go_wp2
    go_ret
    exact ⟨rfl, Below.refl _ _⟩
end Go.Proofs.YticcdighfojjjaaGreatDoor
