/-
  StpRef1.
-/
import Derived.Test.YticcdighfojjjaaGreatDoorQPrKit
import Derived.Test.YticcdighfojjjaaGreatDoorQStpDoes
import Derived.Deep.RegionHeld3
namespace Go.Proofs.YticcdighfojjjaaGreatDoor
open Go.ChangeShapes Go.WideShapes Go.ChangeAt Go.RowKit

/-- A pair as a value. -/
abbrev pV (p : PairV) : Value := .agg #[.string p.table, .string p.key, .string p.value]
theorem below_two (w : World) (o o' : Obj) : Below w.heap.size w ((w.alloc o).alloc o') := (below_one w o).trans ((below_one _ o').mono (below_one w o).size)
theorem below_d (w : World) : Below w.heap.size w w.drew := (Below.refl _ w).drew
set_option maxHeartbeats 1600000 in
theorem refLess_any (p q : PairV) (w : World) :
    Calls Tryz.prog 66 #[pV p, pV q] w fun e w' => e = .returned (.bool (lessP p q)) ∧ Below w.heap.size w w' := by
  obtain ⟨pt, pk, pv⟩ := p
  obtain ⟨qt, qk, qv⟩ := q
  unfold lessP ltB eqB pV
  dsimp only
  cases h1 : Op.bytesLess pt.toList qt.toList
  · cases h2 : pt.toList == qt.toList
    · go_enter Tryz.func66, Tryz.ntmps66
      go_wp2
      go_ret
      exact ⟨rfl, below_two _ _ _⟩
    · cases h3 : Op.bytesLess pk.toList qk.toList
      · go_enter Tryz.func66, Tryz.ntmps66
        go_wp2
        go_ret
        exact ⟨rfl, below_two _ _ _⟩
      · go_enter Tryz.func66, Tryz.ntmps66
        go_wp2
        go_ret
        exact ⟨rfl, below_two _ _ _⟩
  · go_enter Tryz.func66, Tryz.ntmps66
    go_wp2
    go_ret
    exact ⟨rfl, below_two _ _ _⟩
theorem posP_cons {q : PairV} {r : List PairV} {t k : ByteArray} : posP (q :: r) t k = if isP t k q then 0 else posP r t k + 1 := by
  unfold posP
  rw [List.takeWhile_cons]
  cases isP t k q <;> simp
/-- Where the first one is, or below 0. -/
def findI (ps : List PairV) (t k : ByteArray) : Int := if hasP ps t k then (posP ps t k : Int) else -1
theorem find_none {ps : List PairV} {t k : ByteArray} (h : ∀ j (hj : j < ps.length), isP t k ps[j] = false) : findI ps t k = -1 := by
  unfold findI
  rw [if_neg]
  unfold hasP
  rw [List.any_eq_true]
  rintro ⟨q, hq, h2⟩
  obtain ⟨j, hj, rfl⟩ := List.getElem_of_mem hq
  rw [h j hj] at h2; cases h2
theorem find_some {ps : List PairV} {t k : ByteArray} : ∀ {i : Nat} (hi : i < ps.length), (∀ j (hj : j < i), isP t k (ps[j]'(Nat.lt_trans hj hi)) = false) → isP t k ps[i] = true → findI ps t k = i := by
  unfold findI hasP
  induction ps with
  | nil => intro i hi; cases hi
  | cons q r ih =>
    intro i hi hn hy
    rw [posP_cons, List.any_cons]
    cases i with
    | zero => rw [List.getElem_cons_zero] at hy; rw [hy]; rfl
    | succ i =>
      have h0 := hn 0 (by omega)
      rw [List.getElem_cons_zero] at h0
      rw [h0]
      have := ih (i := i) (by simpa using hi) (fun j hj => by have := hn (j + 1) (by omega); simpa using this) (by simpa using hy)
      rw [Bool.false_or]
      split at this
      · rename_i h3
        rw [if_pos h3, if_neg (by simp)]
        omega
      · rename_i h3
        exfalso; omega
set_option maxHeartbeats 1600000 in
theorem refFind_any (ps : List PairV) (x : Option Addr) (n c : Nat) (t k : ByteArray) (w : World) (h : PrsAt w x ps) (hn : ps.length = n) (hl : n ≤ 2147483647) :
    Calls Tryz.prog 67 #[.slice x n c, .string t, .string k] w fun e w' => e = .returned (.int .i64 (findI ps t k)) ∧ w = w' := by
  have HN := Lib.hid hn
  clear hn
  go_enter Tryz.func67, Tryz.ntmps67
  go_wp2
  go_loop [7] (fun i => ∃ s : Nat, i = .int .i64 s ∧ s ≤ n ∧ Hid (∀ j (hj : j < ps.length), j < s → isP t k ps[j] = false)) (fun i => n - (intOf i).toNat)
  case atStart => exact ⟨0, rfl, by omega, Lib.hid fun j _ hj => by omega⟩
  case round =>
    obtain ⟨s, rfl, hs, HI⟩ := hrel
    by_cases hlt : s < n
    · have hsx : s < ps.length := by rw [HN.out]; exact hlt
      obtain ⟨b, off, hx, hbl, c0, c1, c2⟩ := h s hsx
      have q1 : (0 : Int) ≤ s := by omega
      have q2 : (s : Int) < n := by omega
      have HX := Lib.hid hsx
      generalize hq : ps[s] = q at c0 c1 c2
      have HE : Hid (isP t k (ps[s]'HX.out) = ((q.table.toList == t.toList) && (q.key.toList == k.toList))) := Lib.hid (by rw [show (ps[s]'HX.out) = q from hq]; rfl)
      obtain ⟨qt, qk, qv⟩ := q
      dsimp only at c0 c1 c2 HE
      clear hq hsx
      subst hx
      cases h1 : (qt.toList == t.toList) with
      | false =>
        have H2 : Hid (∀ j (hj : j < ps.length), j < s + 1 → isP t k ps[j] = false) := Lib.hid fun j hj hj2 => by
          rcases Nat.lt_or_ge j s with h | h
          · exact HI.out j hj h
          · obtain rfl : j = s := by omega
            rw [HE.out, h1]; rfl
        go_wp2
        go_round
        case rel => exact ⟨s + 1, by go_num, by omega, H2⟩
        case measure => simp [intOf]; omega
      | true =>
        cases h2 : (qk.toList == k.toList) with
        | false =>
          have H2 : Hid (∀ j (hj : j < ps.length), j < s + 1 → isP t k ps[j] = false) := Lib.hid fun j hj hj2 => by
            rcases Nat.lt_or_ge j s with h | h
            · exact HI.out j hj h
            · obtain rfl : j = s := by omega
              rw [HE.out, h1, h2]; rfl
          go_wp2
          go_round
          case rel => exact ⟨s + 1, by go_num, by omega, H2⟩
          case measure => simp [intOf]; omega
        | true =>
          have HF : Hid (findI ps t k = s) := Lib.hid (find_some HX.out (fun j hj => HI.out j (Nat.lt_trans hj HX.out) hj) (by rw [HE.out, h1, h2]; rfl))
          go_wp2
          go_ret
          exact ⟨by rw [HF.out]; rfl, rfl⟩
    · have HF : Hid (findI ps t k = -1) := Lib.hid (find_none fun j hj => HI.out j hj (by have := HN.out; omega))
      go_wp2
      go_ret
      exact ⟨by rw [HF.out]; rfl, rfl⟩
end Go.Proofs.YticcdighfojjjaaGreatDoor
