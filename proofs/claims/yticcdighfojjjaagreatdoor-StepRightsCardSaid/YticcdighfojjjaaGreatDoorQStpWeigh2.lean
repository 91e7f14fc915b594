/-
  StpWeigh, StpWeigh2.
-/
import Derived.Test.YticcdighfojjjaaGreatDoorQStpSame
import Derived.Test.YticcdighfojjjaaGreatDoorQStpRef3
import Derived.Test.YticcdighfojjjaaGreatDoorQStpAlone
namespace Go.Proofs.YticcdighfojjjaaGreatDoor
open Go.ChangeShapes Go.WideShapes Go.ChangeAt Go.RowKit

def addU (n m : Nat) : Nat := if 2147483647 < n ∨ 2147483647 < m then 2147483648 else n + m
theorem addU_le (n m : Nat) : addU n m ≤ 4294967294 := by unfold addU; split <;> omega
theorem addU_in {n m : Nat} (h : addU n m ≤ 2147483647) : n ≤ 2147483647 ∧ m ≤ 2147483647 := by unfold addU at h; split at h <;> omega
theorem addU_any (n m : Nat) (w : World) (hn : n ≤ 9223372036854775807) (hm : m ≤ 9223372036854775807) :
    Calls Tryz.prog 16 #[.int .i64 (n : Int), .int .i64 (m : Int)] w fun e w' => e = .returned (.int .i64 (addU n m : Nat)) ∧ w = w' := by
  by_cases h1 : 2147483647 < n
  · have hv : addU n m = 2147483648 := if_pos (.inl h1)
    rw [hv]
    have g1 : (2147483647 : Int) < n := by omega
    clear hv h1
    go_enter Tryz.func16, Tryz.ntmps16
    go_wp2
    go_ret
    exact ⟨rfl, rfl⟩
  by_cases h2 : 2147483647 < m
  · have hv : addU n m = 2147483648 := if_pos (.inr h2)
    rw [hv]
    have g1 : ¬ (2147483647 : Int) < n := by omega
    have g2 : (2147483647 : Int) < m := by omega
    clear hv h1 h2
    go_enter Tryz.func16, Tryz.ntmps16
    go_wp2
    go_ret
    exact ⟨rfl, rfl⟩
  have hv : ((addU n m : Nat) : Int) = (n : Int) + m := by unfold addU; rw [if_neg (by omega)]; omega
  have HV := Lib.hid hv
  have g1 : ¬ (2147483647 : Int) < n := by omega
  have g2 : ¬ (2147483647 : Int) < m := by omega
  have w1 : IntKind.i64.wrap ((n : Int) + m) = (n : Int) + m := IntWalk.i64_in _ (by omega)
  clear hv h1 h2
  go_enter Tryz.func16, Tryz.ntmps16
  go_wp2
  go_ret
  exact ⟨by rw [HV.out]; rfl, rfl⟩
def PrSm (p : PairV) : Prop := p.table.size ≤ 2147483647 ∧ p.key.size ≤ 2147483647 ∧ p.value.size ≤ 2147483647
set_option maxHeartbeats 1600000 in
set_option maxRecDepth 100000 in
theorem pweigh_any (ps : List PairV) (x : Option Addr) (n c : Nat) (w : World) (h : PrsAt w x ps) (hn : ps.length = n) (hl : n ≤ maxLen) (hz : ∀ p ∈ ps, p.table.size ≤ maxLen ∧ p.key.size ≤ maxLen ∧ p.value.size ≤ maxLen) :
    Calls Tryz.prog 20 #[.slice x n c] w fun e w' => ∃ N : Nat, e = .returned (.int .i64 (N : Int)) ∧ N ≤ 4294967294 ∧ (N ≤ 2147483647 → n ≤ 2147483647 ∧ PrsOk ps) ∧ Below w.heap.size w w' := by
  have HN := Lib.hid hn
  have HX := Lib.hid h
  have HZ := Lib.hid hz
  unfold maxLen at hl
  clear hn h hz
  have HAD := Lib.hid (fun (a b : Nat) (W : World) h1 h2 => addU_any a b W h1 h2)
  have HA0 : Hid (∀ W, Calls Tryz.prog 16 #[.int .i64 0, .int .i64 (n : Int)] W fun e w' => e = .returned (.int .i64 (addU 0 n : Nat)) ∧ W = w') := Lib.hid fun W => addU_any 0 n W (by omega) (by omega)
  have hb0 := addU_le 0 n
  have HI0 : Hid (addU 0 n ≤ 2147483647 → n ≤ 2147483647) := Lib.hid fun h => (addU_in h).2
  generalize addU 0 n = N0 at HA0 hb0 HI0
  go_enter Tryz.func20, Tryz.ntmps20
  go_wp2_with (go_at_call 16; (with_reducible refine (HA0.out _).mono ?_); rintro e w' ⟨rfl, rfl⟩)
  go_loopw [3, 4] (fun nn i wr => ∃ N s : Nat, nn = .int .i64 (N : Int) ∧ i = .int .i64 s ∧ s ≤ n ∧ N ≤ 4294967294 ∧ Hid (Below w.heap.size w wr ∧ (N ≤ 2147483647 → n ≤ 2147483647 ∧ ∀ j (hj : j < ps.length), j < s → PrSm ps[j]))) (fun _ i _ => n - (intOf i).toNat)
  case atStart => exact ⟨N0, 0, rfl, rfl, by omega, hb0, Lib.hid ⟨Below.refl _ _, fun h => ⟨HI0.out h, fun j _ hj => by omega⟩⟩⟩
  case round =>
    clear HA0 hb0 HI0
    obtain ⟨N, s, rfl, rfl, hs, hN, HI⟩ := hrel
    by_cases hlt : s < n
    · have hsx : s < ps.length := by rw [HN.out]; exact hlt
      by_cases hbig : N ≤ 2147483647
      · obtain ⟨b, off, hx, hbl, c0, c1, c2⟩ := (HX.out.below HI.out.1) s hsx
        obtain ⟨z1, z2, z3⟩ := HZ.out _ (List.getElem_mem hsx)
        unfold maxLen at z1 z2 z3
        have HE : Hid (∀ j (hj : j < ps.length), j = s → ps[j] = ps[s]) := Lib.hid fun j hj e => by subst e; rfl
        have q1 : (0 : Int) ≤ s := by omega
        have q2 : (s : Int) < n := by omega
        have q3 : (N : Int) ≤ 2147483647 := by omega
        generalize ps[s] = q at c0 c1 c2 z1 z2 z3 HE
        obtain ⟨qt, qk, qv⟩ := q
        dsimp only at c0 c1 c2 z1 z2 z3
        have HBD := Lib.hid (HI.out.1.trans ((below_d wr).mono HI.out.1.size))
        have hA : Hid (∀ W, Calls Tryz.prog 16 #[.int .i64 (qk.size : Int), .int .i64 (qv.size : Int)] W fun e w' => e = .returned (.int .i64 (addU qk.size qv.size : Nat)) ∧ W = w') := Lib.hid fun W => HAD.out _ _ W (by omega) (by omega)
        have hB : Hid (∀ W, Calls Tryz.prog 16 #[.int .i64 (qt.size : Int), .int .i64 (addU qk.size qv.size : Nat)] W fun e w' => e = .returned (.int .i64 (addU qt.size (addU qk.size qv.size) : Nat)) ∧ W = w') := Lib.hid fun W => HAD.out _ _ W (by omega) (by have := addU_le qk.size qv.size; omega)
        have hC : Hid (∀ W, Calls Tryz.prog 16 #[.int .i64 (N : Int), .int .i64 (addU qt.size (addU qk.size qv.size) : Nat)] W fun e w' => e = .returned (.int .i64 (addU N (addU qt.size (addU qk.size qv.size)) : Nat)) ∧ W = w') := Lib.hid fun W => HAD.out _ _ W (by omega) (by have := addU_le qt.size (addU qk.size qv.size); omega)
        have HS : Hid (addU N (addU qt.size (addU qk.size qv.size)) ≤ 2147483647 → n ≤ 2147483647 ∧ ∀ j (hj : j < ps.length), j < s + 1 → PrSm ps[j]) := Lib.hid fun h => by
          obtain ⟨a1, a2⟩ := addU_in h
          obtain ⟨a3, a4⟩ := addU_in a2
          obtain ⟨a5, a6⟩ := addU_in a4
          refine ⟨(HI.out.2 hbig).1, fun j hj hj2 => ?_⟩
          rcases Nat.lt_or_ge j s with h | h
          · exact (HI.out.2 hbig).2 j hj h
          · rw [HE.out j hj (by omega)]; exact ⟨a3, a5, a6⟩
        have hb2 := addU_le N (addU qt.size (addU qk.size qv.size))
        generalize addU N (addU qt.size (addU qk.size qv.size)) = N3 at hC HS hb2
        generalize addU qt.size (addU qk.size qv.size) = N2 at hB hC
        generalize addU qk.size qv.size = N1 at hA hB
        clear hsx z1 z2 z3 HE HI HAD hbl
        subst hx
        go_wp2
        go_region_held3 (fun W => W.cell? ⟨b, off + s * 3, none⟩ = some (.string qt) ∧ W.cell? ⟨b, off + s * 3 + 1, none⟩ = some (.string qk) ∧ W.cell? ⟨b, off + s * 3 + 2, none⟩ = some (.string qv)) (first | exact ⟨c0, c1, c2⟩)
          (first | (go_at_call 16; (with_reducible refine (hA.out _).mono ?_); rintro e w' ⟨rfl, rfl⟩) | (go_at_call 16; (with_reducible refine (hB.out _).mono ?_); rintro e w' ⟨rfl, rfl⟩) | (go_at_call 16; (with_reducible refine (hC.out _).mono ?_); rintro e w' ⟨rfl, rfl⟩))
        all_goals
          go_wp2
          go_roundw
          case rel => exact ⟨N3, s + 1, rfl, by go_num, by omega, hb2, Lib.hid ⟨HBD.out, HS.out⟩⟩
          case measure => simp [intOf]; omega
      · have q2 : (s : Int) < n := by omega
        have q3 : ¬ (N : Int) ≤ 2147483647 := by omega
        have HBD := Lib.hid HI.out.1
        clear HI hsx
        go_wp2
        go_ret
        exact ⟨N, rfl, hN, fun h => absurd h hbig, HBD.out⟩
    · have q2 : ¬ (s : Int) < n := by omega
      have HBD := Lib.hid HI.out.1
      have HF : Hid (N ≤ 2147483647 → n ≤ 2147483647 ∧ PrsOk ps) := Lib.hid fun h => ⟨(HI.out.2 h).1, fun p hp => by
        obtain ⟨j, hj, rfl⟩ := List.getElem_of_mem hp
        exact (HI.out.2 h).2 j hj (by have := HN.out; omega)⟩
      clear HI
      go_wp2
      go_ret
      exact ⟨N, rfl, hN, HF.out, HBD.out⟩
end Go.Proofs.YticcdighfojjjaaGreatDoor

namespace Go.Proofs.YticcdighfojjjaaGreatDoor
open Go.ChangeShapes Go.WideShapes Go.ChangeAt Go.RowKit

def StepSm (s : StepV) : Prop := s.table.size ≤ 2147483647 ∧ s.key.size ≤ 2147483647 ∧ s.to.size ≤ 2147483647 ∧ s.text.size ≤ 2147483647
theorem StepSm.ok {s : StepV} (h : StepSm s) : StepOk s := by
  obtain ⟨h1, h2, h3, h4⟩ := h
  exact ⟨by unfold maxLen; omega, by unfold maxLen; omega, by unfold maxLen; omega, by unfold maxLen; omega⟩
set_option maxHeartbeats 1600000 in
set_option maxRecDepth 100000 in
theorem sweigh_any (s : StepV) (w : World) (hs : StepOk s) :
    Calls Tryz.prog 21 #[sV s] w fun e w' => ∃ N : Nat, e = .returned (.int .i64 (N : Int)) ∧ N ≤ 4294967294 ∧ (N ≤ 2147483647 → StepSm s) ∧ Below w.heap.size w w' := by
  obtain ⟨kd, tb, ky, to, tx⟩ := s
  obtain ⟨s1, s2, s3, s4⟩ := hs
  unfold maxLen at s1 s2 s3 s4
  unfold sV
  dsimp only at s1 s2 s3 s4 ⊢
  have hA : Hid (∀ W, Calls Tryz.prog 16 #[.int .i64 (tb.size : Int), .int .i64 (ky.size : Int)] W fun e w' => e = .returned (.int .i64 (addU tb.size ky.size : Nat)) ∧ W = w') := Lib.hid fun W => addU_any _ _ W (by omega) (by omega)
  have hB : Hid (∀ W, Calls Tryz.prog 16 #[.int .i64 (to.size : Int), .int .i64 (tx.size : Int)] W fun e w' => e = .returned (.int .i64 (addU to.size tx.size : Nat)) ∧ W = w') := Lib.hid fun W => addU_any _ _ W (by omega) (by omega)
  have hC : Hid (∀ W, Calls Tryz.prog 16 #[.int .i64 (addU tb.size ky.size : Nat), .int .i64 (addU to.size tx.size : Nat)] W fun e w' => e = .returned (.int .i64 (addU (addU tb.size ky.size) (addU to.size tx.size) : Nat)) ∧ W = w') := Lib.hid fun W => addU_any _ _ W (by have := addU_le tb.size ky.size; omega) (by have := addU_le to.size tx.size; omega)
  have HS : Hid (addU (addU tb.size ky.size) (addU to.size tx.size) ≤ 2147483647 → StepSm ⟨kd, tb, ky, to, tx⟩) := Lib.hid fun h => by
    obtain ⟨a1, a2⟩ := addU_in h
    obtain ⟨a3, a4⟩ := addU_in a1
    obtain ⟨a5, a6⟩ := addU_in a2
    exact ⟨a3, a4, a5, a6⟩
  have hb2 := addU_le (addU tb.size ky.size) (addU to.size tx.size)
  generalize addU (addU tb.size ky.size) (addU to.size tx.size) = N3 at hC HS hb2
  generalize addU tb.size ky.size = N1 at hA hC
  generalize addU to.size tx.size = N2 at hB hC
  clear s1 s2 s3 s4
  obtain ⟨S, hS⟩ : ∃ S, w.heap.size = S := ⟨_, rfl⟩
  obtain ⟨w1, hw1⟩ : ∃ w1, w.alloc (Obj.cells #[.int .i64 kd, .string tb, .string ky, .string to, .string tx] 35) = w1 := ⟨_, rfl⟩
  have HB1 : Hid (Below w.heap.size w w1) := Lib.hid (by rw [← hw1]; exact below_one _ _)
  have hc : w1.cell? ⟨S, 1, none⟩ = some (.string tb) ∧ w1.cell? ⟨S, 2, none⟩ = some (.string ky) ∧ w1.cell? ⟨S, 3, none⟩ = some (.string to) ∧ w1.cell? ⟨S, 4, none⟩ = some (.string tx) := by rw [← hw1, ← hS]; simp
  have HW1 := Lib.hid hw1
  have HS1 := Lib.hid hS
  clear hw1 hS
  go_enter Tryz.func21, Tryz.ntmps21
  go_wp2
  rw [HW1.out, HS1.out]
  obtain ⟨c1, c2, c3, c4⟩ := hc
  go_region_held3 (fun W => W.cell? ⟨S, 1, none⟩ = some (.string tb) ∧ W.cell? ⟨S, 2, none⟩ = some (.string ky) ∧ W.cell? ⟨S, 3, none⟩ = some (.string to) ∧ W.cell? ⟨S, 4, none⟩ = some (.string tx)) (first | exact ⟨c1, c2, c3, c4⟩)
    (first | (go_at_call 16; (with_reducible refine (hA.out _).mono ?_); rintro e w' ⟨rfl, rfl⟩) | (go_at_call 16; (with_reducible refine (hB.out _).mono ?_); rintro e w' ⟨rfl, rfl⟩) | (go_at_call 16; (with_reducible refine (hC.out _).mono ?_); rintro e w' ⟨rfl, rfl⟩))
  all_goals
    go_wp2
    go_ret
    exact ⟨N3, rfl, hb2, HS.out, HB1.out.drew⟩
/-- Steps in memory. -/
def StpsAt (w : World) (x : Option Addr) (ss : List StepV) : Prop :=
  ∀ k (h : k < ss.length), ∃ b off, x = some ⟨b, off, none⟩ ∧ b < w.heap.size ∧ w.cell? ⟨b, off + k * 5, none⟩ = some (.int .i64 ss[k].kind) ∧ w.cell? ⟨b, off + k * 5 + 1, none⟩ = some (.string ss[k].table) ∧ w.cell? ⟨b, off + k * 5 + 2, none⟩ = some (.string ss[k].key) ∧ w.cell? ⟨b, off + k * 5 + 3, none⟩ = some (.string ss[k].to) ∧ w.cell? ⟨b, off + k * 5 + 4, none⟩ = some (.string ss[k].text)
theorem StpsAt.below {w w' : World} {x : Option Addr} {ss : List StepV} (h : StpsAt w x ss) (hb : Below w.heap.size w w') : StpsAt w' x ss := fun k hk => by
  obtain ⟨b, off, e, hl, c0, c1, c2, c3, c4⟩ := h k hk
  exact ⟨b, off, e, Nat.lt_of_lt_of_le hl hb.size, by rw [hb.cell (p := ⟨b, _, none⟩) hl]; exact c0, by rw [hb.cell (p := ⟨b, _, none⟩) hl]; exact c1, by rw [hb.cell (p := ⟨b, _, none⟩) hl]; exact c2, by rw [hb.cell (p := ⟨b, _, none⟩) hl]; exact c3, by rw [hb.cell (p := ⟨b, _, none⟩) hl]; exact c4⟩
set_option maxHeartbeats 1600000 in
set_option maxRecDepth 100000 in
theorem ssweigh_any (ss : List StepV) (x : Option Addr) (n c : Nat) (w : World) (h : StpsAt w x ss) (hn : ss.length = n) (hl : n ≤ maxLen) (hz : ∀ s ∈ ss, StepOk s) :
    Calls Tryz.prog 17 #[.slice x n c] w fun e w' => ∃ N : Nat, e = .returned (.int .i64 (N : Int)) ∧ N ≤ 4294967294 ∧ (N ≤ 2147483647 → n ≤ 2147483647 ∧ ∀ s ∈ ss, StepSm s) ∧ Below w.heap.size w w' := by
  have HN := Lib.hid hn
  have HX := Lib.hid h
  have HZ := Lib.hid hz
  unfold maxLen at hl
  clear hn h hz
  have HA0 : Hid (∀ W, Calls Tryz.prog 16 #[.int .i64 0, .int .i64 (n : Int)] W fun e w' => e = .returned (.int .i64 (addU 0 n : Nat)) ∧ W = w') := Lib.hid fun W => addU_any 0 n W (by omega) (by omega)
  have hb0 := addU_le 0 n
  have HI0 : Hid (addU 0 n ≤ 2147483647 → n ≤ 2147483647) := Lib.hid fun h => (addU_in h).2
  generalize addU 0 n = N0 at HA0 hb0 HI0
  go_enter Tryz.func17, Tryz.ntmps17
  go_wp2_with (go_at_call 16; (with_reducible refine (HA0.out _).mono ?_); rintro e w' ⟨rfl, rfl⟩)
  go_loopw [3, 4] (fun nn i wr => ∃ N s : Nat, nn = .int .i64 (N : Int) ∧ i = .int .i64 s ∧ s ≤ n ∧ N ≤ 4294967294 ∧ Hid (Below w.heap.size w wr ∧ (N ≤ 2147483647 → n ≤ 2147483647 ∧ ∀ j (hj : j < ss.length), j < s → StepSm ss[j]))) (fun _ i _ => n - (intOf i).toNat)
  case atStart => exact ⟨N0, 0, rfl, rfl, by omega, hb0, Lib.hid ⟨Below.refl _ _, fun h => ⟨HI0.out h, fun j _ hj => by omega⟩⟩⟩
  case round =>
    clear HA0 hb0 HI0
    obtain ⟨N, s, rfl, rfl, hs, hN, HI⟩ := hrel
    by_cases hlt : s < n
    · have hsx : s < ss.length := by rw [HN.out]; exact hlt
      by_cases hbig : N ≤ 2147483647
      · obtain ⟨b, off, hx, hbl, c0, c1, c2, c3, c4⟩ := (HX.out.below HI.out.1) s hsx
        have hz := HZ.out _ (List.getElem_mem hsx)
        have HE : Hid (∀ j (hj : j < ss.length), j = s → ss[j] = ss[s]) := Lib.hid fun j hj e => by subst e; rfl
        have q1 : (0 : Int) ≤ s := by omega
        have q2 : (s : Int) < n := by omega
        have q3 : (N : Int) ≤ 2147483647 := by omega
        generalize ss[s] = q at c0 c1 c2 c3 c4 hz HE
        obtain ⟨kd, tb, ky, to, tx⟩ := q
        dsimp only at c0 c1 c2 c3 c4
        have HSW : Hid (∀ W, Calls Tryz.prog 21 #[.agg #[.int .i64 kd, .string tb, .string ky, .string to, .string tx]] W fun e w' => ∃ N : Nat, e = .returned (.int .i64 (N : Int)) ∧ N ≤ 4294967294 ∧ (N ≤ 2147483647 → StepSm ⟨kd, tb, ky, to, tx⟩) ∧ Below W.heap.size W w') := Lib.hid fun W => sweigh_any ⟨kd, tb, ky, to, tx⟩ W hz
        have HAD : Hid (∀ (a b : Nat) W, a ≤ 9223372036854775807 → b ≤ 9223372036854775807 → Calls Tryz.prog 16 #[.int .i64 (a : Int), .int .i64 (b : Int)] W fun e w' => e = .returned (.int .i64 (addU a b : Nat)) ∧ W = w') := Lib.hid fun a b W h1 h2 => addU_any a b W h1 h2
        have HA3 : Hid (∀ (b : Nat) W, b ≤ 9223372036854775807 → Calls Tryz.prog 16 #[.int .i64 300000, .int .i64 (b : Int)] W fun e w' => e = .returned (.int .i64 (addU 300000 b : Nat)) ∧ W = w') := Lib.hid fun b W h2 => addU_any 300000 b W (by omega) h2
        clear hsx hz hbl
        subst hx
        go_wp2_with (first
          | (go_at_call 21; (with_reducible refine (HSW.out _).mono ?_); rintro e w2 ⟨N1, rfl, hN1, hN2, hb⟩; have hle := addU_le 300000 N1; have HN2 := Lib.hid hN2; have HB2 := Lib.hid (HI.out.1.trans (hb.mono HI.out.1.size)); clear hN2 hb)
          | (go_at_call 16; (with_reducible refine (HA3.out N1 _ (by omega)).mono ?_); rintro e w' ⟨rfl, rfl⟩)
          | (go_at_call 16; (with_reducible refine (HAD.out N (addU 300000 N1) _ (by omega) (by omega)).mono ?_); rintro e w' ⟨rfl, rfl⟩))
        have HS : Hid (addU N (addU 300000 N1) ≤ 2147483647 → n ≤ 2147483647 ∧ ∀ j (hj : j < ss.length), j < s + 1 → StepSm ss[j]) := Lib.hid fun h => by
          obtain ⟨a1, a2⟩ := addU_in h
          obtain ⟨a3, a4⟩ := addU_in a2
          refine ⟨(HI.out.2 hbig).1, fun j hj hj2 => ?_⟩
          rcases Nat.lt_or_ge j s with h | h
          · exact (HI.out.2 hbig).2 j hj h
          · rw [HE.out j hj (by omega)]; exact HN2.out a4
        have hb3 := addU_le N (addU 300000 N1)
        generalize addU N (addU 300000 N1) = N3 at HS hb3 ⊢
        clear HI HE HSW HAD HA3 HN2 c0 c1 c2 c3 c4
        go_roundw
        case rel => exact ⟨N3, s + 1, rfl, by go_num, by omega, hb3, Lib.hid ⟨HB2.out, HS.out⟩⟩
        case measure => simp [intOf]; omega
      · have q2 : (s : Int) < n := by omega
        have q3 : ¬ (N : Int) ≤ 2147483647 := by omega
        have HBD := Lib.hid HI.out.1
        clear HI hsx
        go_wp2
        go_ret
        exact ⟨N, rfl, hN, fun h => absurd h hbig, HBD.out⟩
    · have q2 : ¬ (s : Int) < n := by omega
      have HBD := Lib.hid HI.out.1
      have HF : Hid (N ≤ 2147483647 → n ≤ 2147483647 ∧ ∀ s ∈ ss, StepSm s) := Lib.hid fun h => ⟨(HI.out.2 h).1, fun p hp => by
        obtain ⟨j, hj, rfl⟩ := List.getElem_of_mem hp
        exact (HI.out.2 h).2 j hj (by have := HN.out; omega)⟩
      clear HI
      go_wp2
      go_ret
      exact ⟨N, rfl, hN, HF.out, HBD.out⟩
theorem speaks_any (s : StepV) (t : ByteArray) (w : World) :
    Calls Tryz.prog 45 #[sV s, .string t] w fun e w' => e = .returned (.bool (spkB s t)) ∧ Below w.heap.size w w' := by
  obtain ⟨kd, tb, ky, to, tx⟩ := s
  unfold spkB eqB sV
  dsimp only
  cases h1 : (tb.toList == t.toList)
  · by_cases h2 : kd = 4
    · subst h2
      cases h3 : (to.toList == t.toList)
      · go_enter Tryz.func45, Tryz.ntmps45
        go_wp2
        go_ret
        exact ⟨rfl, below_one _ _⟩
      · go_enter Tryz.func45, Tryz.ntmps45
        go_wp2
        go_ret
        exact ⟨rfl, below_one _ _⟩
    · rw [decide_eq_false h2]
      have g2 : (kd == 4) = false := beq_eq_false_iff_ne.2 h2
      clear h2
      go_enter Tryz.func45, Tryz.ntmps45
      go_wp2
      go_ret
      exact ⟨rfl, below_one _ _⟩
  · go_enter Tryz.func45, Tryz.ntmps45
    go_wp2
    go_ret
    exact ⟨rfl, below_one _ _⟩
theorem own_snoc {ps : List PairV} {s : StepV} {b : Bool} {i : Nat} (h : i < ps.length) : ownP s b (ps.take (i + 1)) = ownP s b (ps.take i) ++ (if (spkB s ps[i].table == b) = true then [ps[i]] else []) := by
  unfold ownP
  rw [List.take_add_one, List.getElem?_eq_getElem h, List.filter_append]
  congr 1
  simp only [Option.toList_some, List.filter_cons, List.filter_nil]
set_option maxHeartbeats 3200000 in
set_option maxRecDepth 100000 in
theorem lbut_any (ps : List PairV) (x : Option Addr) (n c : Nat) (s : StepV) (spk : Bool) (w : World) (h : PrsAt w x ps) (hn : ps.length = n) (hl : n ≤ 2147483647) :
    Calls Tryz.prog 28 #[.slice x n c, sV s, .bool spk] w fun e w' => ∃ v, e = .returned v ∧ OwnP w w' v (ownP s spk ps) := by
  have HN := Lib.hid hn
  have HX := Lib.hid h
  have HSP := Lib.hid (fun (t : ByteArray) (W : World) => speaks_any s t W)
  have HSN : Hid (∀ i (h : i < ps.length), ownP s spk (ps.take (i + 1)) = ownP s spk (ps.take i) ++ (if (spkB s ps[i].table == spk) = true then [ps[i]] else [])) := Lib.hid fun i h => own_snoc h
  have HSL : Hid (∀ i, (ownP s spk (ps.take i)).length ≤ i) := Lib.hid fun i => filter_len _ _ _
  have HS0 : Hid (ownP s spk (ps.take 0) = []) := Lib.hid rfl
  have HSF : Hid (ownP s spk (ps.take n) = ownP s spk ps) := Lib.hid (by rw [List.take_of_length_le (by omega)])
  obtain ⟨kd, tb, ky, to, tx⟩ := s
  unfold sV at HSP ⊢
  dsimp only at HSP ⊢
  generalize hsp : spkB ⟨kd, tb, ky, to, tx⟩ = SPK at HSP HSN
  generalize ownP ⟨kd, tb, ky, to, tx⟩ spk ps = OUT at HSF ⊢
  generalize ho : ownP ⟨kd, tb, ky, to, tx⟩ spk = OW at HSF HSN HSL HS0
  clear hsp ho hn h
  go_enter Tryz.func28, Tryz.ntmps28
  go_wp2
  obtain ⟨S, hS⟩ : ∃ S, w.heap.size = S := ⟨_, rfl⟩
  obtain ⟨w1, hw1⟩ : ∃ w1, w.alloc (Obj.cells #[.int .i64 kd, .string tb, .string ky, .string to, .string tx] 35) = w1 := ⟨_, rfl⟩
  have HB1 : Hid (Below w.heap.size w w1) := Lib.hid (by rw [← hw1]; exact below_one _ _)
  have HS1 : Hid (w1.cell? ⟨S, 0, none⟩ = some (.int .i64 kd) ∧ w1.cell? ⟨S, 1, none⟩ = some (.string tb) ∧ w1.cell? ⟨S, 2, none⟩ = some (.string ky) ∧ w1.cell? ⟨S, 3, none⟩ = some (.string to) ∧ w1.cell? ⟨S, 4, none⟩ = some (.string tx)) := Lib.hid (by rw [← hw1, ← hS]; simp)
  rw [hw1, hS]
  clear hw1 hS
  go_loopw [7, 8] (fun vv i wr => ∃ (v : Value) (s : Nat), v = vv ∧ i = .int .i64 s ∧ s ≤ n ∧ Hid (OwnP w1 wr v (OW (ps.take s)))) (fun _ i _ => n - (intOf i).toNat)
  case atStart => exact ⟨_, 0, rfl, rfl, by omega, Lib.hid (by rw [HS0.out]; exact OwnP.nil_ w1)⟩
  case round =>
    obtain ⟨v, s, rfl, rfl, hs, HO⟩ := hrel
    by_cases hlt : s < n
    · have hsx : s < ps.length := by rw [HN.out]; exact hlt
      obtain ⟨b, off, hx, hbl, c0, c1, c2⟩ := (HX.out.below (HB1.out.trans (HO.out.below.mono HB1.out.size))) s hsx
      have hstep := HSN.out s hsx
      have hlen := HSL.out s
      have q1 : (0 : Int) ≤ s := by omega
      have q2 : (s : Int) < n := by omega
      generalize ps[s] = q at c0 c1 c2 hstep
      obtain ⟨qt, qk, qv⟩ := q
      dsimp only at c0 c1 c2 hstep
      have HST := Lib.hid hstep
      have HC8 : Hid (∀ W, Below wr.heap.size wr W → W.cell? ⟨S, 0, none⟩ = some (.int .i64 kd) ∧ W.cell? ⟨S, 1, none⟩ = some (.string tb) ∧ W.cell? ⟨S, 2, none⟩ = some (.string ky) ∧ W.cell? ⟨S, 3, none⟩ = some (.string to) ∧ W.cell? ⟨S, 4, none⟩ = some (.string tx) ∧ W.cell? ⟨b, off + s * 3, none⟩ = some (.string qt) ∧ W.cell? ⟨b, off + s * 3 + 1, none⟩ = some (.string qk) ∧ W.cell? ⟨b, off + s * 3 + 2, none⟩ = some (.string qv)) := Lib.hid fun W hb => by
        have hbw := HO.out.below.trans (hb.mono HO.out.below.size)
        obtain ⟨k0, k1, k2, k3, k4⟩ := HS1.out
        exact ⟨(hbw.cell (lt_of_cell k0)).trans k0, (hbw.cell (lt_of_cell k1)).trans k1, (hbw.cell (lt_of_cell k2)).trans k2, (hbw.cell (lt_of_cell k3)).trans k3, (hbw.cell (lt_of_cell k4)).trans k4, (hb.cell (lt_of_cell c0)).trans c0, (hb.cell (lt_of_cell c1)).trans c1, (hb.cell (lt_of_cell c2)).trans c2⟩
      obtain ⟨k0, k1, k2, k3, k4, _⟩ := HC8.out wr (Below.refl _ _)
      have HSQ : Hid (∀ W, Calls Tryz.prog 45 #[.agg #[.int .i64 kd, .string tb, .string ky, .string to, .string tx], .string qt] W fun e w' => e = .returned (.bool (SPK qt)) ∧ Below W.heap.size W w') := Lib.hid fun W => HSP.out qt W
      generalize SPK qt = B at HSQ HST
      clear hsx hstep hbl
      subst hx
      have key : ∀ T : List PairV, OW (ps.take s) = T → Hid (OwnP w1 wr v T ∧ T.length ≤ s ∧ OW (ps.take (s + 1)) = T ++ (if (B == spk) = true then [⟨qt, qk, qv⟩] else [])) := fun T h => Lib.hid (by subst h; exact ⟨HO.out, hlen, HST.out⟩)
      obtain ⟨T, hT⟩ : ∃ T, OW (ps.take s) = T := ⟨_, rfl⟩
      have HK := key T hT
      have htl := HK.out.2.1
      clear key hT hlen HO HST
      by_cases hB : (B == spk) = true
      · have HK2 : Hid (OW (ps.take (s + 1)) = T ++ [⟨qt, qk, qv⟩]) := Lib.hid (by rw [HK.out.2.2, if_pos hB])
        have HO0 := Lib.hid HK.out.1
        have hBB : B = spk := by simpa using hB
        subst hBB
        clear HK hB
        go_wp2
        go_region_held3 (fun W => W.cell? ⟨S, 0, none⟩ = some (.int .i64 kd) ∧ W.cell? ⟨S, 1, none⟩ = some (.string tb) ∧ W.cell? ⟨S, 2, none⟩ = some (.string ky) ∧ W.cell? ⟨S, 3, none⟩ = some (.string to) ∧ W.cell? ⟨S, 4, none⟩ = some (.string tx) ∧ W.cell? ⟨b, off + s * 3, none⟩ = some (.string qt)) (first | exact ⟨k0, k1, k2, k3, k4, c0⟩ | exact z6) (first | (go_at_call 45; (with_reducible refine (HSQ.out _).mono ?_); rintro e w2 ⟨rfl, hb2⟩; obtain ⟨y0, y1, y2, y3, y4, y5, y6, y7⟩ := HC8.out w2 ((below_d wr).trans (hb2.mono (Nat.le_refl _))); have z6 := And.intro y0 (And.intro y1 (And.intro y2 (And.intro y3 (And.intro y4 y5))))))
        all_goals
          have HO2 := Lib.hid (HO0.out.after ((below_d wr).trans (hb2.mono (Nat.le_refl _))))
          clear hb2 HSQ HC8 k0 k1 k2 k3 k4 c0 c1 c2 z6 y0 y1 y2 y3 y4
          go_wp2_with (at_builtin; refine appendP rfl _ _ rfl HO2.out (by omega) rfl rfl rfl ?_; intro y cap w5 ho hg; have HO5 := Lib.hid ho; clear ho hg)
          go_roundw
          case rel => exact ⟨_, s + 1, rfl, by go_num, by omega, Lib.hid (by rw [HK2.out]; exact HO5.out)⟩
          case measure => simp [intOf]; omega
      · have HK2 : Hid (OW (ps.take (s + 1)) = T) := Lib.hid (by rw [HK.out.2.2, if_neg hB, List.append_nil])
        have HO0 := Lib.hid HK.out.1
        have hBf : (B == spk) = false := by simpa using hB
        clear HK hB
        cases B <;> cases spk
        all_goals
          first
          | (exfalso; revert hBf; decide)
          | skip
        all_goals
          clear hBf
          go_wp2
          go_region_held3 (fun W => W.cell? ⟨S, 0, none⟩ = some (.int .i64 kd) ∧ W.cell? ⟨S, 1, none⟩ = some (.string tb) ∧ W.cell? ⟨S, 2, none⟩ = some (.string ky) ∧ W.cell? ⟨S, 3, none⟩ = some (.string to) ∧ W.cell? ⟨S, 4, none⟩ = some (.string tx) ∧ W.cell? ⟨b, off + s * 3, none⟩ = some (.string qt)) (first | exact ⟨k0, k1, k2, k3, k4, c0⟩ | exact z6) (first | (go_at_call 45; (with_reducible refine (HSQ.out _).mono ?_); rintro e w2 ⟨rfl, hb2⟩; obtain ⟨y0, y1, y2, y3, y4, y5, y6, y7⟩ := HC8.out w2 ((below_d wr).trans (hb2.mono (Nat.le_refl _))); have z6 := And.intro y0 (And.intro y1 (And.intro y2 (And.intro y3 (And.intro y4 y5))))))
          all_goals
            have HO2 := Lib.hid (HO0.out.after ((below_d wr).trans (hb2.mono (Nat.le_refl _))))
            clear hb2 HSQ HC8 k0 k1 k2 k3 k4 c0 c1 c2 z6 y0 y1 y2 y3 y4 y5 y6 y7
            go_wp2
            go_roundw
            case rel => exact ⟨_, s + 1, rfl, by go_num, by omega, Lib.hid (by rw [HK2.out]; exact HO2.out)⟩
            case measure => simp [intOf]; omega
    · have hte : s = n := by omega
      subst hte
      have q2 : ¬ (s : Int) < s := by omega
      have HF : Hid (OwnP w wr v OUT) := Lib.hid (by rw [← HSF.out]; exact HO.out.lift HB1.out)
      clear HO
      go_wp2
      go_ret
      exact ⟨_, rfl, HF.out⟩
end Go.Proofs.YticcdighfojjjaaGreatDoor
