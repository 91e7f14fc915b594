/-
  StpRights0.
-/
import Derived.Test.YticcdighfojjjaaGreatDoorQStpAwake
import Derived.Test.YticcdighfojjjaaGreatDoorQStpWeigh2
namespace Go.Proofs.YticcdighfojjjaaGreatDoor
open Go.ChangeShapes Go.WideShapes Go.ChangeAt Go.RowKit

set_option maxHeartbeats 3200000 in
set_option maxRecDepth 100000 in
theorem stepRights_any (ss : List StepV) (x : Option Addr) (n c : Nat) (w : World) (h : StpsAt w x ss) (hn : ss.length = n) (hl : n ≤ maxLen) (hz : ∀ s ∈ ss, StepOk s) (hT : StdS w) :
    Calls Tryz.prog 5 #[.slice x n c] w fun e w' => e = .returned (.bool true) ∧ Below w.heap.size w w' := by
  have HW := Lib.hid (ssweigh_any ss x n c w h hn hl hz)
  have HAW : Hid (∀ W, Below w.heap.size w W → Calls Tryz.prog 10 #[] W fun e w' => e = .returned (.bool true) ∧ Below W.heap.size W w') := Lib.hid fun W hb => lawake_any W (hT.below hb)
  have HX := Lib.hid h
  have HN := Lib.hid hn
  have HZ := Lib.hid hz
  have HT := Lib.hid (fun W hb => hT.below (w' := W) hb)
  clear h hn hl hz hT
  go_enter Tryz.func5, Tryz.ntmps5
  go_wp2_with fail
  refine HW.out.mono ?_
  rintro e w2 ⟨N, rfl, _, hN2, hb⟩
  have HB2 := Lib.hid hb
  have HN2 := Lib.hid hN2
  clear hb hN2 HW
  by_cases hbig : 2147483647 < N
  · have g0 : (2147483647 : Int) < N := by omega
    go_wp2
    go_ret
    exact ⟨rfl, HB2.out⟩
  have g0 : ¬ (2147483647 : Int) < N := by omega
  have hn31 := (HN2.out (by omega)).1
  clear hbig HN2
  go_wp2_with fail
  refine (HAW.out _ HB2.out).mono ?_
  rintro e w3 ⟨rfl, hb⟩
  have HB3 := Lib.hid (HB2.out.trans (hb.mono HB2.out.size))
  clear hb HB2 HAW
  go_wp2
  go_loopw [4] (fun i wr => ∃ t : Nat, i = .int .i64 t ∧ t ≤ n ∧ Hid (Below w.heap.size w wr)) (fun i _ => n - (intOf i).toNat)
  case atStart => exact ⟨0, rfl, by omega, HB3⟩
  case round =>
    clear HB3
    obtain ⟨t, rfl, ht, HB⟩ := hrel
    by_cases hlt : t < n
    · have htx : t < ss.length := by rw [HN.out]; exact hlt
      obtain ⟨b, off, hx, _, c0, c1, c2, c3, c4⟩ := (HX.out.below HB.out) t htx
      have hz := HZ.out _ (List.getElem_mem htx)
      have q1 : (0 : Int) ≤ t := by omega
      have q2 : (t : Int) < n := by omega
      generalize ss[t] = q at c0 c1 c2 c3 c4 hz
      obtain ⟨kd, tb, ky, to, tx⟩ := q
      dsimp only at c0 c1 c2 c3 c4
      have HP : Hid (∀ W, Below w.heap.size w W → Calls Tryz.prog 18 #[.agg #[.int .i64 kd, .string tb, .string ky, .string to, .string tx]] W fun e w' => e = .returned (.bool (rightS ⟨kd, tb, ky, to, tx⟩)) ∧ Below W.heap.size W w') := Lib.hid fun W hb => pright_any ⟨kd, tb, ky, to, tx⟩ W hz (HT.out W hb)
      have HR : Hid (∀ W, Calls Tryz.prog 19 #[.agg #[.int .i64 kd, .string tb, .string ky, .string to, .string tx]] W fun e w' => e = .returned (.bool (rightS ⟨kd, tb, ky, to, tx⟩)) ∧ Below W.heap.size W w') := Lib.hid fun W => sright_any ⟨kd, tb, ky, to, tx⟩ W hz
      generalize rightS ⟨kd, tb, ky, to, tx⟩ = R at HP HR
      have HCC : Hid (∀ W, Below wr.heap.size wr W → W.cell? ⟨b, off + t * 5, none⟩ = some (.int .i64 kd) ∧ W.cell? ⟨b, off + t * 5 + 1, none⟩ = some (.string tb) ∧ W.cell? ⟨b, off + t * 5 + 2, none⟩ = some (.string ky) ∧ W.cell? ⟨b, off + t * 5 + 3, none⟩ = some (.string to) ∧ W.cell? ⟨b, off + t * 5 + 4, none⟩ = some (.string tx)) := Lib.hid fun W hb => ⟨(hb.cell (lt_of_cell c0)).trans c0, (hb.cell (lt_of_cell c1)).trans c1, (hb.cell (lt_of_cell c2)).trans c2, (hb.cell (lt_of_cell c3)).trans c3, (hb.cell (lt_of_cell c4)).trans c4⟩
      clear htx hz
      subst hx
      go_wp2
      cases R
      all_goals
        go_region_held3 (fun W => W.cell? ⟨b, off + t * 5, none⟩ = some (.int .i64 kd) ∧ W.cell? ⟨b, off + t * 5 + 1, none⟩ = some (.string tb) ∧ W.cell? ⟨b, off + t * 5 + 2, none⟩ = some (.string ky) ∧ W.cell? ⟨b, off + t * 5 + 3, none⟩ = some (.string to) ∧ W.cell? ⟨b, off + t * 5 + 4, none⟩ = some (.string tx)) (first | exact ⟨c0, c1, c2, c3, c4⟩ | exact z5 | exact z6)
          (first
            | (go_at_call 18; (with_reducible refine (HP.out _ HB.out.drew).mono ?_); rintro e w5 ⟨rfl, hb5⟩; have z5 := HCC.out w5 ((below_d wr).trans (hb5.mono (Nat.le_refl _))))
            | (go_at_call 19; (with_reducible refine (HR.out _).mono ?_); rintro e w6 ⟨rfl, hb6⟩; have z6 := HCC.out w6 (((below_d wr).trans (hb5.mono (Nat.le_refl _))).trans (hb6.mono hb5.size))))
        all_goals
          have HB7 := Lib.hid (HB.out.trans ((((below_d wr).trans (hb5.mono (Nat.le_refl _))).trans (hb6.mono hb5.size)).mono HB.out.size))
          clear z5 z6 hb5 hb6 HP HR HCC c0 c1 c2 c3 c4
          go_wp2
          go_roundw
          case rel => exact ⟨t + 1, by go_num, by omega, HB7⟩
          case measure => simp [intOf]; omega
    · have q2 : ¬ (t : Int) < n := by omega
      go_wp2
      go_ret
      exact ⟨rfl, HB.out⟩
/-- Texts in memory. -/
def TxtsAt (w : World) (x : Option Addr) (ts : List ByteArray) : Prop := ∀ k (h : k < ts.length), ∃ b off, x = some ⟨b, off, none⟩ ∧ b < w.heap.size ∧ w.cell? ⟨b, off + k, none⟩ = some (.string ts[k])
theorem TxtsAt.below {w w' : World} {x : Option Addr} {ts : List ByteArray} (h : TxtsAt w x ts) (hb : Below w.heap.size w w') : TxtsAt w' x ts := fun k hk => by
  obtain ⟨b, off, e, hl, hc⟩ := h k hk
  exact ⟨b, off, e, Nat.lt_of_lt_of_le hl hb.size, by rw [hb.cell (p := ⟨b, off + k, none⟩) hl]; exact hc⟩
theorem TxtsAt.of_own {w : World} {B n : Nat} {v : Value} {ts : List ByteArray} (h : w.ownsRow B 9 1 v n (ts.map Value.string)) (hn : ts.length = n) (h0 : 0 < n) : ∃ g c, v = .slice (some ⟨g, 0, none⟩) n c ∧ TxtsAt w (some ⟨g, 0, none⟩) ts ∧ B ≤ g ∧ g < w.heap.size := by
  rcases h.2 with ⟨h1, h2⟩ | ⟨g, cap, cur, h1, hB, hg, _⟩
  · omega
  · refine ⟨g, cap, h1, fun k hk => ⟨g, 0, rfl, (Array.getElem?_eq_some_iff.1 hg).1, ?_⟩, hB, (Array.getElem?_eq_some_iff.1 hg).1⟩
    have hv := h
    rw [h1] at hv
    rw [Nat.zero_add, hv.cellAt k (by omega), List.getElem?_map, List.getElem?_eq_getElem hk]; rfl
set_option maxHeartbeats 1600000 in
set_option maxRecDepth 100000 in
/-- The same texts. -/
theorem ltexts_any (ts : List ByteArray) (x y : Option Addr) (n c d : Nat) (w : World) (ha : TxtsAt w x ts) (hb : TxtsAt w y ts) (hn : ts.length = n) (hl : n ≤ 2147483647) :
    Calls Tryz.prog 12 #[.slice x n c, .slice y n d] w fun e w' => e = .returned (.bool true) ∧ Below w.heap.size w w' := by
  have HA := Lib.hid ha
  have HB := Lib.hid hb
  have HN := Lib.hid hn
  clear ha hb hn
  go_enter Tryz.func12, Tryz.ntmps12
  go_wp2
  go_loopw [5] (fun i wr => ∃ t : Nat, i = .int .i64 t ∧ t ≤ n ∧ Hid (Below w.heap.size w wr)) (fun i _ => n - (intOf i).toNat)
  case atStart => exact ⟨0, rfl, by omega, Lib.hid (Below.refl _ _)⟩
  case round =>
    obtain ⟨t, rfl, ht, HK⟩ := hrel
    by_cases hlt : t < n
    · have htx : t < ts.length := by rw [HN.out]; exact hlt
      obtain ⟨p, po, hx, _, a0⟩ := (HA.out.below HK.out) t htx
      obtain ⟨q, qo, hy, _, b0⟩ := (HB.out.below HK.out) t htx
      generalize ts[t] = s at a0 b0
      have he : (s.toList == s.toList) = true := by simp
      have q1 : (0 : Int) ≤ t := by omega
      have q2 : (t : Int) < n := by omega
      have HD := Lib.hid (HK.out.trans ((below_d wr).mono HK.out.size))
      clear htx HK
      subst hx hy
      go_wp2
      go_region
      all_goals
        go_wp2
        go_roundw
        case rel => exact ⟨t + 1, by go_num, by omega, HD⟩
        case measure => simp [intOf]; omega
    · have q2 : ¬ (t : Int) < n := by omega
      go_wp2
      go_ret
      exact ⟨rfl, HK.out⟩
end Go.Proofs.YticcdighfojjjaaGreatDoor
