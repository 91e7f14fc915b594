/-
  StpRef6, StpRef7.
-/
import Derived.Test.YticcdighfojjjaaGreatDoorQStpRef5
namespace Go.Proofs.YticcdighfojjjaaGreatDoor
open Go.ChangeShapes Go.WideShapes Go.ChangeAt Go.RowKit

theorem below_d2 (w : World) : Below w.heap.size w w.drew.drew := (Below.refl _ w).drew.drew
def tabAcc (ps : List PairV) (t to : ByteArray) (i : Nat) : List PairV := (movedP (ps.take i) t to).foldl insP (dropP ps t emB)
theorem acc_zero (ps : List PairV) (t to : ByteArray) : tabAcc ps t to 0 = dropP ps t emB := rfl
theorem acc_no {ps : List PairV} {t to : ByteArray} {i : Nat} (h : i < ps.length) (hq : eqB ps[i].table t = false) : tabAcc ps t to (i + 1) = tabAcc ps t to i := by
  unfold tabAcc movedP
  rw [List.take_add_one, List.getElem?_eq_getElem h, List.filter_append]
  have : [ps[i]].filter (inT t) = [] := by
    rw [List.filter_cons, if_neg (by unfold inT; rw [hq]; simp)]; rfl
  rw [Option.toList_some, this, List.append_nil]
theorem acc_yes {ps : List PairV} {t to : ByteArray} {i : Nat} (h : i < ps.length) (hq : eqB ps[i].table t = true) : tabAcc ps t to (i + 1) = insP (tabAcc ps t to i) (toT to ps[i]) := by
  unfold tabAcc movedP
  rw [List.take_add_one, List.getElem?_eq_getElem h, List.filter_append]
  have : [ps[i]].filter (inT t) = [ps[i]] := by
    rw [List.filter_cons, if_pos (by unfold inT; exact hq)]; rfl
  rw [Option.toList_some, this, List.map_append, List.foldl_append]; rfl
theorem acc_all {ps : List PairV} {t to : ByteArray} {i : Nat} (h : ps.length ≤ i) : tabAcc ps t to i = (movedP ps t to).foldl insP (dropP ps t emB) := by
  unfold tabAcc; rw [List.take_of_length_le h]
set_option maxHeartbeats 3200000 in
set_option maxRecDepth 100000 in
theorem stabled_any (ps : List PairV) (x : Option Addr) (n c : Nat) (s : StepV) (w : World) (h : PrsAt w x ps) (hn : ps.length = n) (hc : n ≤ c) (hl : n ≤ 1000000000) :
    Calls Tryz.prog 70 #[.slice x n c, sV s] w (DoesRes w (x, ps) (tabP ps s)) := by
  obtain ⟨kd, tb, ky, to, tx⟩ := s
  have HX := Lib.hid h
  have HN := Lib.hid hn
  have HC := Lib.hid hc
  unfold sV
  dsimp only
  have HBU : Hid (∀ (W : World) (t : ByteArray), PrsAt W x ps → Calls Tryz.prog 69 #[.slice x n c, .string t, .string ⟨#[]⟩] W fun e w' => ∃ v, e = .returned v ∧ OwnP W w' v (dropP ps t emB)) := Lib.hid fun W t hx => refBut_any ps x n c t emB W hx hn (by omega)
  have HTC := Lib.hid (show tabP ps ⟨kd, tb, ky, to, tx⟩ = (if (dropP ps tb emB).length = ps.length then (ps, 0) else if (dropP ps to emB).length < ps.length then ([], 161) else ((movedP ps tb to).foldl insP (dropP ps tb emB), 0)) from rfl)
  have HL1 := Lib.hid (acc_zero ps tb to)
  obtain ⟨m1, hm1⟩ : ∃ m, (dropP ps tb emB).length = m := ⟨_, rfl⟩
  obtain ⟨m2, hm2⟩ : ∃ m, (dropP ps to emB).length = m := ⟨_, rfl⟩
  have HM1 := Lib.hid hm1
  have HM2 := Lib.hid hm2
  rw [hm1, hm2, hn] at HTC
  obtain ⟨R, hR⟩ : ∃ R, tabP ps ⟨kd, tb, ky, to, tx⟩ = R := ⟨_, rfl⟩
  rw [hR] at HTC ⊢
  have hle1 : m1 ≤ n := by rw [← hm1, ← hn]; exact List.length_filter_le _ _
  have hle2 : m2 ≤ n := by rw [← hm2, ← hn]; exact List.length_filter_le _ _
  have HX1 : Hid (∀ o : Obj, PrsAt (w.alloc o) x ps) := Lib.hid fun o => h.below (below_one w o)
  have HBX : Hid (∀ W, Below (w.alloc (Obj.cells #[.int .i64 kd, .string tb, .string ky, .string to, .string tx] 35)).heap.size (w.alloc (Obj.cells #[.int .i64 kd, .string tb, .string ky, .string to, .string tx] 35)) W → W.cell? ⟨w.heap.size, 1, none⟩ = some (.string tb) ∧ W.cell? ⟨w.heap.size, 3, none⟩ = some (.string to) ∧ Below w.heap.size w W ∧ PrsAt W x ps) := Lib.hid fun W hb => by
    obtain ⟨_, k1, _, k3, _⟩ := box5_cells hb
    have := (below_one w (Obj.cells #[.int .i64 kd, .string tb, .string ky, .string to, .string tx] 35)).trans (hb.mono (below_one w _).size)
    exact ⟨k1, k3, this, h.below this⟩
  clear hR hm1 hm2 h hn hc
  by_cases e1 : m1 = n
  · have HRR : Hid (R = (ps, 0)) := Lib.hid (by rw [HTC.out, if_pos e1])
    subst e1
    clear HTC
    go_enter Tryz.func70, Tryz.ntmps70
    go_wp2_with (go_at_call 69; (with_reducible refine (HBU.out _ tb (HX1.out _)).mono ?_); rintro e w2 ⟨v, rfl, ho⟩; obtain ⟨x2, c2, rfl, hp2, hc2⟩ := ho.some_; obtain ⟨k1, k3, hb2, hx2⟩ := HBX.out w2 ho.below; have HB2 := Lib.hid hb2; have HX2 := Lib.hid hx2; rw [HM1.out]; clear ho hp2 hc2 hb2 hx2)
    go_ret2
    exact ⟨x, c, by rw [HRR.out]; show _ = Ending.returned (.tuple #[.slice x ps.length c, .int .i64 0]); rw [HN.out]; rfl, by rw [HRR.out]; exact HX2.out, by rw [HRR.out]; show ps.length ≤ c; rw [HN.out]; exact HC.out, HB2.out, .inl ⟨rfl, by rw [HRR.out]⟩⟩
  have g1 : ((m1 : Int) == (n : Int)) = false := by rw [beq_eq_false_iff_ne]; omega
  by_cases e2 : m2 < n
  · have HRR : Hid (R = ([], 161)) := Lib.hid (by rw [HTC.out, if_neg e1, if_pos e2])
    have g2 : (m2 : Int) < n := by omega
    clear HTC e1 e2
    go_enter Tryz.func70, Tryz.ntmps70
    go_wp2_with (go_at_call 69; first
      | ((with_reducible refine (HBU.out _ tb (HX1.out _)).mono ?_); rintro e w2 ⟨v, rfl, ho⟩; obtain ⟨x2, c2, rfl, hp2, hc2⟩ := ho.some_; obtain ⟨k1, k3, hb2, hx2⟩ := HBX.out w2 ho.below; have HB2 := Lib.hid hb2; have HX2 := Lib.hid hx2; have HW2 := Lib.hid ho.below; rw [HM1.out]; clear ho hp2 hc2 hb2 hx2)
      | ((with_reducible refine (HBU.out _ to HX2.out).mono ?_); rintro e w3 ⟨v, rfl, ho⟩; obtain ⟨x3, c3, rfl, hp3, hc3⟩ := ho.some_; have HB3 := Lib.hid (HB2.out.trans (ho.below.mono HB2.out.size)); rw [HM2.out]; clear ho hp3 hc3))
    go_ret2
    exact ⟨none, 0, by rw [HRR.out]; rfl, by rw [HRR.out]; exact PrsAt.nil_ _ _, by rw [HRR.out]; exact Nat.le_refl _, HB3.out, .inr new_none⟩
  have g2 : ¬ (m2 : Int) < n := by omega
  have HRR : Hid (R = (tabAcc ps tb to n, 0)) := Lib.hid (by rw [HTC.out, if_neg e1, if_neg e2, acc_all (by rw [HN.out]; exact Nat.le_refl _)])
  have HDE : Hid (decide (m2 < n) = false) := Lib.hid (by simpa using e2)
  clear HTC e1 e2
  go_enter Tryz.func70, Tryz.ntmps70
  go_wp2_with (go_at_call 69; first
    | ((with_reducible refine (HBU.out _ tb (HX1.out _)).mono ?_); rintro e w2 ⟨v, rfl, ho⟩; obtain ⟨x2, c2, rfl, hp2, hc2⟩ := ho.some_; obtain ⟨k1, k3, hb2, hx2⟩ := HBX.out w2 ho.below; have HW2 := Lib.hid ho.below; have HX2 := Lib.hid hx2; have HP2 := Lib.hid (And.intro hp2 hc2); have HN2 : Hid (∀ b off, x2 = some ⟨b, off, none⟩ → w.heap.size ≤ b) := Lib.hid (fun b off e => Nat.le_trans (by simp) (ho.new_ b off e)); rw [HM1.out]; clear ho hp2 hc2 hb2 hx2)
    | ((with_reducible refine (HBU.out _ to HX2.out).mono ?_); rintro e w3 ⟨v, rfl, ho⟩; obtain ⟨x3, c3, rfl, hp3, hc3⟩ := ho.some_; have HW3 := Lib.hid (HW2.out.trans (ho.below.mono HW2.out.size)); have HP3 := Lib.hid (HP2.out.1.below ho.below); rw [HM2.out]; clear ho hp3 hc3))
  have HST : Hid (∃ (A : List PairV), A = tabAcc ps tb to 0 ∧ PrsAt w3 x2 A ∧ A.length = m1 ∧ m1 ≤ c2) := Lib.hid ⟨_, rfl, HP3.out, HM1.out, by rw [← HM1.out]; exact HP2.out.2⟩
  clear HP3 HP2 HX2 HW2 g1 g2 k1 k3
  rw [HDE.out]
  go_loopw [6, 7] (fun vv i wr => ∃ (xx : Option Addr) (mm cc : Nat) (s : Nat), Value.slice xx mm cc = vv ∧ i = .int .i64 s ∧ s ≤ n ∧ mm ≤ n + s ∧ Hid (PrsAt wr xx (tabAcc ps tb to s) ∧ (tabAcc ps tb to s).length = mm ∧ mm ≤ cc ∧ Below (w.alloc (Obj.cells #[.int .i64 kd, .string tb, .string ky, .string to, .string tx] 35)).heap.size (w.alloc (Obj.cells #[.int .i64 kd, .string tb, .string ky, .string to, .string tx] 35)) wr ∧ ∀ b off, xx = some ⟨b, off, none⟩ → w.heap.size ≤ b)) (fun _ i _ => n - (intOf i).toNat)
  case atStart =>
    obtain ⟨A, rfl, a1, a2, a3⟩ := HST.out
    exact ⟨x2, m1, c2, 0, rfl, rfl, by omega, by omega, Lib.hid ⟨a1, a2, a3, HW3.out, HN2.out⟩⟩
  case round =>
    clear HST HW3
    obtain ⟨xx, mm, cc, s, rfl, rfl, hs, hmm, HI⟩ := hrel
    obtain ⟨k1, k3, hbw, hxw⟩ := HBX.out wr HI.out.2.2.2.1
    have HFR := Lib.hid HI.out.2.2.2.2
    by_cases hlt : s < n
    · have hsx : s < ps.length := by rw [HN.out]; exact hlt
      obtain ⟨b, off, hx, hbl, c0, c1, c2'⟩ := hxw s hsx
      have q1 : (0 : Int) ≤ s := by omega
      have q2 : (s : Int) < n := by omega
      have HA1 : Hid (eqB ps[s].table tb = false → tabAcc ps tb to (s + 1) = tabAcc ps tb to s) := Lib.hid fun h => acc_no hsx h
      have HA2 : Hid (eqB ps[s].table tb = true → tabAcc ps tb to (s + 1) = insP (tabAcc ps tb to s) (toT to ps[s])) := Lib.hid fun h => acc_yes hsx h
      generalize ps[s] = q at c0 c1 c2' HA1 HA2
      obtain ⟨qt, qk, qv⟩ := q
      dsimp only at c0 c1 c2' HA1 HA2
      clear hsx hbw hxw
      subst hx
      cases h1 : (qt.toList == tb.toList) with
      | false =>
        have HE := Lib.hid (HA1.out (show eqB qt tb = false from h1))
        have HI2 : Hid (PrsAt wr.drew xx (tabAcc ps tb to (s + 1)) ∧ (tabAcc ps tb to (s + 1)).length = mm ∧ mm ≤ cc ∧ Below (w.alloc (Obj.cells #[.int .i64 kd, .string tb, .string ky, .string to, .string tx] 35)).heap.size (w.alloc (Obj.cells #[.int .i64 kd, .string tb, .string ky, .string to, .string tx] 35)) wr.drew ∧ ∀ b off, xx = some ⟨b, off, none⟩ → w.heap.size ≤ b) := Lib.hid (by rw [HE.out]; exact ⟨HI.out.1.below (below_d wr), HI.out.2.1, HI.out.2.2.1, HI.out.2.2.2.1.drew, HFR.out⟩)
        clear HA1 HA2 HE HI
        go_wp2
        go_region
        all_goals
          go_wp2
          go_roundw
          case rel => exact ⟨xx, mm, cc, s + 1, rfl, by go_num, by omega, by omega, HI2⟩
          case measure => simp [intOf]; omega
      | true =>
        have HE := Lib.hid (HA2.out (show eqB qt tb = true from h1))
        have HWI : Hid (∀ W, Below wr.heap.size wr W → Calls Tryz.prog 68 #[.slice xx mm cc, .agg #[.string to, .string qk, .string qv]] W fun e w' => ∃ v, e = .returned v ∧ OwnP W w' v (tabAcc ps tb to (s + 1))) := Lib.hid fun W hb => by
          rw [HE.out]
          exact refWith_any (tabAcc ps tb to s) xx mm cc ⟨to, qk, qv⟩ W (HI.out.1.below hb) HI.out.2.1 HI.out.2.2.1 (by omega)
        have HAL : Hid ((tabAcc ps tb to (s + 1)).length = mm + 1) := Lib.hid (by rw [HE.out, ins_len, HI.out.2.1])
        have HWB := Lib.hid HI.out.2.2.2.1
        have HCC : Hid (∀ W, Below wr.heap.size wr W → W.cell? ⟨w.heap.size, 3, none⟩ = some (.string to) ∧ W.cell? ⟨b, off + s * 3 + 1, none⟩ = some (.string qk) ∧ W.cell? ⟨b, off + s * 3 + 2, none⟩ = some (.string qv)) := Lib.hid fun W hb => ⟨(hb.cell (lt_of_cell k3)).trans k3, (hb.cell (lt_of_cell c1)).trans c1, (hb.cell (lt_of_cell c2')).trans c2'⟩
        clear HA1 HA2 HE HI
        go_wp2
        go_region
        all_goals
          go_wp2
          go_region_held3 (fun W => W.cell? ⟨w.heap.size, 3, none⟩ = some (.string to) ∧ W.cell? ⟨b, off + s * 3 + 1, none⟩ = some (.string qk) ∧ W.cell? ⟨b, off + s * 3 + 2, none⟩ = some (.string qv)) (first | exact ⟨k3, c1, c2'⟩ | exact z3) (first | (go_at_call 68; (with_reducible refine (HWI.out _ (below_d2 wr)).mono ?_); rintro e w5 ⟨v5, rfl, ho5⟩; obtain ⟨x5, c5, rfl, hp5, hc5⟩ := ho5.some_; have z3 := HCC.out w5 ((below_d2 wr).trans (ho5.below.mono (Nat.le_refl _))); rw [HAL.out] at hc5 ⊢))
          all_goals
            have HI2 : Hid (PrsAt w5 x5 (tabAcc ps tb to (s + 1)) ∧ (tabAcc ps tb to (s + 1)).length = mm + 1 ∧ mm + 1 ≤ c5 ∧ Below (w.alloc (Obj.cells #[.int .i64 kd, .string tb, .string ky, .string to, .string tx] 35)).heap.size (w.alloc (Obj.cells #[.int .i64 kd, .string tb, .string ky, .string to, .string tx] 35)) w5 ∧ ∀ b off, x5 = some ⟨b, off, none⟩ → w.heap.size ≤ b) := Lib.hid ⟨hp5, HAL.out, hc5, HWB.out.trans (((below_d2 wr).trans (ho5.below.mono (Nat.le_refl _))).mono HWB.out.size), fun b off e => Nat.le_trans (Nat.le_trans (by simp) HWB.out.size) (ho5.new_ b off e)⟩
            clear HWI HAL HWB HCC z3 hp5 ho5 hc5 k1 k3 c0 c1 c2'
            go_wp2
            go_roundw
            case rel => exact ⟨x5, mm + 1, c5, s + 1, rfl, by go_num, by omega, by omega, HI2⟩
            case measure => simp [intOf]; omega
    · have hte : s = n := by omega
      subst hte
      have q2 : ¬ (s : Int) < s := by omega
      have HIN := Lib.hid HI.out
      have HB9 := Lib.hid hbw
      clear HI hbw hxw k1 k3
      go_wp2
      go_ret2
      exact ⟨xx, cc, by rw [HRR.out]; show _ = Ending.returned (.tuple #[.slice xx (tabAcc ps tb to s).length cc, .int .i64 0]); rw [HIN.out.2.1]; rfl, by rw [HRR.out]; exact HIN.out.1, by rw [HRR.out]; show (tabAcc ps tb to s).length ≤ cc; rw [HIN.out.2.1]; exact HIN.out.2.2.1, HB9.out, .inr HFR.out⟩
end Go.Proofs.YticcdighfojjjaaGreatDoor

namespace Go.Proofs.YticcdighfojjjaaGreatDoor
open Go.ChangeShapes Go.WideShapes Go.ChangeAt Go.RowKit

theorem DoesRes.lift {w w1 : World} {x0 : Option Addr × List PairV} {r : List PairV × Int} {e : Ending} {w' : World} (h : DoesRes w1 x0 r e w') (hb : Below w.heap.size w w1) : DoesRes w x0 r e w' := by
  obtain ⟨x, c, h1, h2, h3, h4, h5⟩ := h
  exact ⟨x, c, h1, h2, h3, hb.trans (h4.mono hb.size), h5.imp id fun h b off e => Nat.le_trans hb.size (h b off e)⟩
theorem DoesRes.of_own {w w1 : World} {x0 : Option Addr × List PairV} {v : Value} {ps : List PairV} (h : OwnP w w1 v ps) : DoesRes w x0 (ps, 0) (.returned (.tuple #[v, .int .i64 0])) w1 := by
  obtain ⟨x, c, rfl, h1, h2⟩ := h.some_
  exact ⟨x, c, rfl, h1, h2, h.below, .inr h.new_⟩
set_option maxHeartbeats 3200000 in
set_option maxRecDepth 100000 in
theorem sdoes_any (ps : List PairV) (x : Option Addr) (n c : Nat) (s : StepV) (w : World) (h : PrsAt w x ps) (hn : ps.length = n) (hc : n ≤ c) (hl : n ≤ 1000000000) (hok : PrsOk ps) :
    Calls Tryz.prog 44 #[.slice x n c, sV s] w (DoesRes w (x, ps) (doesP ps s)) := by
  have HX1 : Hid (∀ o : Obj, PrsAt (w.alloc o) x ps ∧ Below w.heap.size w (w.alloc o)) := Lib.hid fun o => ⟨h.below (below_one w o), below_one w o⟩
  obtain ⟨kd, tb, ky, to, tx⟩ := s
  have HT : Hid (∀ W, PrsAt W x ps → Calls Tryz.prog 70 #[.slice x n c, .agg #[.int .i64 kd, .string tb, .string ky, .string to, .string tx]] W (DoesRes W (x, ps) (tabP ps ⟨kd, tb, ky, to, tx⟩))) := Lib.hid fun W hx => stabled_any ps x n c ⟨kd, tb, ky, to, tx⟩ W hx hn hc hl
  have HM : Hid (∀ W, PrsAt W x ps → Calls Tryz.prog 71 #[.slice x n c, .agg #[.int .i64 kd, .string tb, .string ky, .string to, .string tx]] W (DoesRes W (x, ps) (mapP tx tb ps))) := Lib.hid fun W hx => smapped_any ps x n c ⟨kd, tb, ky, to, tx⟩ W hx hn (by omega) hok
  have HV : Hid (∀ W, PrsAt W x ps → Calls Tryz.prog 72 #[.slice x n c, .agg #[.int .i64 kd, .string tb, .string ky, .string to, .string tx]] W (DoesRes W (x, ps) (movP ps ⟨kd, tb, ky, to, tx⟩))) := Lib.hid fun W hx => smoved_any ps x n c ⟨kd, tb, ky, to, tx⟩ W hx hn hc (by omega)
  have HF : Hid (∀ W, PrsAt W x ps → Calls Tryz.prog 67 #[.slice x n c, .string tb, .string ky] W fun e w' => e = .returned (.int .i64 (findI ps tb ky)) ∧ W = w') := Lib.hid fun W hx => refFind_any ps x n c tb ky W hx hn (by omega)
  have HW : Hid (∀ W, PrsAt W x ps → Calls Tryz.prog 68 #[.slice x n c, .agg #[.string tb, .string ky, .string tx]] W fun e w' => ∃ v, e = .returned v ∧ OwnP W w' v (insP ps ⟨tb, ky, tx⟩)) := Lib.hid fun W hx => refWith_any ps x n c ⟨tb, ky, tx⟩ W hx hn hc (by omega)
  have HB : Hid (∀ W, PrsAt W x ps → Calls Tryz.prog 69 #[.slice x n c, .string tb, .string ky] W fun e w' => ∃ v, e = .returned v ∧ OwnP W w' v (dropP ps tb ky)) := Lib.hid fun W hx => refBut_any ps x n c tb ky W hx hn (by omega)
  obtain ⟨R, hR⟩ : ∃ R, doesP ps ⟨kd, tb, ky, to, tx⟩ = R := ⟨_, rfl⟩
  rw [hR]
  unfold sV
  dsimp only
  clear h hn hc hok hl
  by_cases k1 : kd = 1
  · subst k1
    rw [does1 rfl] at hR
    cases hk : hasP ps tb ky with
    | true =>
      rw [hk, if_pos rfl] at hR
      have HRR := Lib.hid hR
      rw [find_yes hk] at HF
      generalize posP ps tb ky = i at HF
      have q1 : (0 : Int) ≤ i := by omega
      clear hR hk HT HM HV HW HB
      go_enter Tryz.func44, Tryz.ntmps44
      go_wp2_with (go_at_call 67; (with_reducible refine (HF.out _ (HX1.out _).1).mono ?_); rintro e w' ⟨rfl, rfl⟩)
      go_ret2
      exact ⟨none, 0, by rw [← HRR.out]; rfl, by rw [← HRR.out]; exact PrsAt.nil_ _ _, by rw [← HRR.out]; exact Nat.le_refl _, (HX1.out _).2, .inr new_none⟩
    | false =>
      rw [hk, if_neg (by simp)] at hR
      have HRR := Lib.hid hR
      rw [find_no hk] at HF
      clear hR hk HT HM HV HB
      go_enter Tryz.func44, Tryz.ntmps44
      go_wp2_with (first
        | (go_at_call 67; (with_reducible refine (HF.out _ (HX1.out _).1).mono ?_); rintro e w' ⟨rfl, rfl⟩)
        | (go_at_call 68; (with_reducible refine (HW.out _ (HX1.out _).1).mono ?_); rintro e w' ⟨v, rfl, ho⟩; have HO := Lib.hid ho; clear ho))
      go_ret2
      rw [← HRR.out]
      exact (DoesRes.of_own HO.out).lift (HX1.out _).2
  have g1 : (kd == 1) = false := beq_eq_false_iff_ne.2 k1
  by_cases k2 : kd = 2
  · subst k2
    rw [does2 rfl] at hR
    have HRR := Lib.hid hR
    clear hR HT HM HV HW HF k1
    go_enter Tryz.func44, Tryz.ntmps44
    go_wp2_with (go_at_call 69; (with_reducible refine (HB.out _ (HX1.out _).1).mono ?_); rintro e w' ⟨v, rfl, ho⟩; have HO := Lib.hid ho; clear ho)
    go_ret2
    rw [← HRR.out]
    exact (DoesRes.of_own HO.out).lift (HX1.out _).2
  have g2 : (kd == 2) = false := beq_eq_false_iff_ne.2 k2
  by_cases k4 : kd = 4
  · subst k4
    rw [does4 rfl] at hR
    rw [hR] at HT
    clear hR HB HM HV HW HF k1 k2
    go_enter Tryz.func44, Tryz.ntmps44
    go_wp2_with (go_at_call 70; (with_reducible refine (HT.out _ (HX1.out _).1).mono ?_); rintro e w' ⟨x2, c2, rfl, a1, a2, a3, a4⟩; have HO := Lib.hid (And.intro a1 (And.intro a2 (And.intro a3 a4))); clear a1 a2 a3 a4)
    go_ret2
    exact (DoesRes.lift ⟨x2, c2, rfl, HO.out.1, HO.out.2.1, HO.out.2.2.1, HO.out.2.2.2⟩ (HX1.out _).2)
  have g4 : (kd == 4) = false := beq_eq_false_iff_ne.2 k4
  by_cases k5 : kd = 5
  · subst k5
    rw [does5 rfl] at hR
    rw [hR] at HM
    clear hR HB HT HV HW HF k1 k2 k4
    go_enter Tryz.func44, Tryz.ntmps44
    go_wp2_with (go_at_call 71; (with_reducible refine (HM.out _ (HX1.out _).1).mono ?_); rintro e w' ⟨x2, c2, rfl, a1, a2, a3, a4⟩; have HO := Lib.hid (And.intro a1 (And.intro a2 (And.intro a3 a4))); clear a1 a2 a3 a4)
    go_ret2
    exact (DoesRes.lift ⟨x2, c2, rfl, HO.out.1, HO.out.2.1, HO.out.2.2.1, HO.out.2.2.2⟩ (HX1.out _).2)
  have g5 : (kd == 5) = false := beq_eq_false_iff_ne.2 k5
  have hV : doesP ps ⟨kd, tb, ky, to, tx⟩ = movP ps ⟨kd, tb, ky, to, tx⟩ := by unfold doesP; rw [if_neg k1, if_neg k2, if_neg k4, if_neg k5]
  rw [hV] at hR
  rw [hR] at HV
  clear hR hV HB HT HM HW HF k1 k2 k4 k5
  go_enter Tryz.func44, Tryz.ntmps44
  go_wp2_with (go_at_call 72; (with_reducible refine (HV.out _ (HX1.out _).1).mono ?_); rintro e w' ⟨x2, c2, rfl, a1, a2, a3, a4⟩; have HO := Lib.hid (And.intro a1 (And.intro a2 (And.intro a3 a4))); clear a1 a2 a3 a4)
  go_ret2
  exact (DoesRes.lift ⟨x2, c2, rfl, HO.out.1, HO.out.2.1, HO.out.2.2.1, HO.out.2.2.2⟩ (HX1.out _).2)
theorem does_long {ps : List PairV} {s : StepV} (h : pairsB ps = true) : (doesP ps s).1.length ≤ 501 := by
  obtain ⟨hl, _, _⟩ := pairsB_iff.1 h
  by_cases k1 : s.kind = 1
  · rw [does1 k1]
    split
    · simp
    · rw [ins_len]; omega
  by_cases k2 : s.kind = 2
  · rw [does2 k2]
    have := filter_all (keepP s.table s.key) ps
    show (ps.filter (keepP s.table s.key)).length ≤ 501
    omega
  by_cases k4 : s.kind = 4
  · rw [does4 k4]
    rcases tab_cases ps s with ⟨_, e⟩ | ⟨_, _, e⟩ | ⟨_, _, e⟩
    · rw [e]; show ps.length ≤ 501; omega
    · rw [e]; simp
    · rw [e]; show (List.foldl insP (dropP ps s.table emB) (movedP ps s.table s.to)).length ≤ 501; rw [tab_len]; omega
  by_cases k5 : s.kind = 5
  · rw [does5 k5]
    by_cases h0 : (mapP s.text s.table ps).2 = 0
    · rw [(map_ok _ _ _ h0).1, List.length_map]; omega
    · have : ∀ l : List PairV, (mapP s.text s.table l).1.length ≤ l.length := by
        intro l
        induction l with
        | nil => exact Nat.le_refl _
        | cons q r ih =>
          unfold mapP
          repeat' split
          all_goals simp
          all_goals omega
      have := this ps; omega
  · have : doesP ps s = movP ps s := by unfold doesP; rw [if_neg k1, if_neg k2, if_neg k4, if_neg k5]
    rw [this]
    rcases mov_cases ps s with ⟨_, e⟩ | ⟨_, _, e⟩ | ⟨_, q, _, _, _, e⟩
    · rw [e]; show ps.length ≤ 501; omega
    · rw [e]; simp
    · rw [e]
      show (insP _ _).length ≤ 501
      rw [ins_len]
      split
      · have := filter_all (keepP s.table s.key) ps
        unfold dropP; omega
      · omega
set_option maxHeartbeats 3200000 in
set_option maxRecDepth 100000 in
/-- The document's own Apply, at any list and any step. -/
theorem sapply_any (ps : List PairV) (x : Option Addr) (n c : Nat) (s : StepV) (w : World) (h : PrsAt w x ps) (hn : ps.length = n) (hc : n ≤ c) (hl : n ≤ 2147483647) (hok : PrsOk ps) (hs : StepOk s) :
    Calls Tryz.prog 25 #[.slice x n c, sV s] w (DoesRes w (x, ps) (applyP ps s)) := by
  have HSP : Hid (∀ W, PrsAt W x ps → Calls Tryz.prog 43 #[.slice x n c] W fun e w' => e = .returned (.bool (pairsB ps)) ∧ Below W.heap.size W w') := Lib.hid fun W hx => spairs_any ps x n c W hx hn hok
  have HX := Lib.hid h
  obtain ⟨R, hR⟩ : ∃ R, applyP ps s = R := ⟨_, rfl⟩
  rw [hR]
  have HDL : Hid (pairsB ps = true → (doesP ps s).1.length ≤ 501 ∧ n ≤ 500) := Lib.hid fun h => ⟨does_long h, by have := (pairsB_iff.1 h).1; omega⟩
  have HAP : Hid (R = if pairsB ps = false then ([], 1) else if rightS s = false then ([], 160) else if (doesP ps s).2 ≠ 0 then ([], (doesP ps s).2) else if 500 < (doesP ps s).1.length then ([], 163) else ((doesP ps s).1, 0)) := Lib.hid (by rw [← hR]; rfl)
  have HSR : Hid (∀ W, Calls Tryz.prog 19 #[sV s] W fun e w' => e = .returned (.bool (rightS s)) ∧ Below W.heap.size W w') := Lib.hid fun W => sright_any s W hs
  have HSD : Hid (n ≤ 500 → ∀ W, PrsAt W x ps → Calls Tryz.prog 44 #[.slice x n c, sV s] W (DoesRes W (x, ps) (doesP ps s))) := Lib.hid fun h5 W hx => sdoes_any ps x n c s W hx hn hc (by omega) hok
  obtain ⟨kd, tb, ky, to, tx⟩ := s
  unfold sV at HSR HSD ⊢
  dsimp only at HSR HSD ⊢
  clear h hn hc hl hok hs hR
  have HB5 : Hid (∀ o : Obj, Below w.heap.size w (w.alloc o) ∧ PrsAt (w.alloc o) x ps) := Lib.hid fun o => ⟨below_one w o, HX.out.below (below_one w o)⟩
  have HC5 : Hid (∀ W, Below (w.alloc (Obj.cells #[.int .i64 kd, .string tb, .string ky, .string to, .string tx] 35)).heap.size (w.alloc (Obj.cells #[.int .i64 kd, .string tb, .string ky, .string to, .string tx] 35)) W → W.cell? ⟨w.heap.size, 0, none⟩ = some (.int .i64 kd) ∧ W.cell? ⟨w.heap.size, 1, none⟩ = some (.string tb) ∧ W.cell? ⟨w.heap.size, 2, none⟩ = some (.string ky) ∧ W.cell? ⟨w.heap.size, 3, none⟩ = some (.string to) ∧ W.cell? ⟨w.heap.size, 4, none⟩ = some (.string tx) ∧ PrsAt W x ps ∧ Below w.heap.size w W) := Lib.hid fun W hb => by
    obtain ⟨b0, b1, b2, b3, b4⟩ := box5_cells hb
    have hB := (HB5.out (Obj.cells #[.int .i64 kd, .string tb, .string ky, .string to, .string tx] 35)).1.trans (hb.mono (HB5.out _).1.size)
    exact ⟨b0, b1, b2, b3, b4, HX.out.below hB, hB⟩
  cases hp : pairsB ps with
  | false =>
    have HRR : Hid (([], 1) = R) := Lib.hid (by rw [HAP.out, if_pos hp])
    rw [hp] at HSP
    clear hp HAP HSR HSD HDL
    go_enter Tryz.func25, Tryz.ntmps25
    go_wp2_with (go_at_call 43; (with_reducible refine (HSP.out _ (HB5.out _).2).mono ?_); rintro e w' ⟨rfl, hb⟩; have HBE := Lib.hid (HC5.out _ hb).2.2.2.2.2.2; clear hb)
    go_ret2
    exact ⟨none, 0, by rw [← HRR.out]; rfl, by rw [← HRR.out]; exact PrsAt.nil_ _ _, by rw [← HRR.out]; exact Nat.le_refl _, HBE.out, .inr new_none⟩
  | true =>
    rw [if_neg (by simp [hp])] at HAP
    rw [hp] at HSP
    have HN5 := Lib.hid (HDL.out hp).2
    have HD5 := Lib.hid (HDL.out hp).1
    clear hp HDL
    have arm : True := trivial
    cases hr : rightS ⟨kd, tb, ky, to, tx⟩ with
    | false =>
      have HRR : Hid (([], 160) = R) := Lib.hid (by rw [HAP.out, if_pos hr])
      rw [hr] at HSR
      clear hr HAP HSD
      go_enter Tryz.func25, Tryz.ntmps25
      go_wp2_with (first
        | (go_at_call 43; (with_reducible refine (HSP.out _ (HB5.out _).2).mono ?_); rintro e w2 ⟨rfl, hb⟩; obtain ⟨b0, b1, b2, b3, b4, _⟩ := HC5.out _ hb; have HB2 := Lib.hid hb; clear hb)
        | (go_at_call 19; (with_reducible refine (HSR.out _).mono ?_); rintro e w3 ⟨rfl, hb⟩; have HBE := Lib.hid (HC5.out _ (HB2.out.trans (hb.mono HB2.out.size))).2.2.2.2.2.2; clear hb))
      go_ret2
      exact ⟨none, 0, by rw [← HRR.out]; rfl, by rw [← HRR.out]; exact PrsAt.nil_ _ _, by rw [← HRR.out]; exact Nat.le_refl _, HBE.out, .inr new_none⟩
    | true =>
      rw [if_neg (by simp [hr])] at HAP
      rw [hr] at HSR
      have HSD2 := Lib.hid (HSD.out HN5.out)
      clear hr HSD HN5
      generalize doesP ps ⟨kd, tb, ky, to, tx⟩ = D at HAP HSD2 HD5
      obtain ⟨DL, DE⟩ := D
      dsimp only at HAP HD5
      obtain ⟨dl, hdl⟩ : ∃ dl, DL.length = dl := ⟨_, rfl⟩
      have HDL := Lib.hid hdl
      rw [hdl] at HAP HD5
      have hd5 := HD5.out
      clear hdl HD5 arm
      have hcase : (DE ≠ 0) ∨ (DE = 0 ∧ 500 < dl) ∨ (DE = 0 ∧ dl ≤ 500) := by omega
      rcases hcase with h1 | ⟨h1, h2⟩ | ⟨h1, h2⟩
      · have HRR : Hid (([], DE) = R) := Lib.hid (by rw [HAP.out, if_pos h1])
        have g1 : (DE != 0) = true := by simpa using h1
        clear HAP h1 hd5
        go_enter Tryz.func25, Tryz.ntmps25
        go_wp2_with (first
          | (go_at_call 43; (with_reducible refine (HSP.out _ (HB5.out _).2).mono ?_); rintro e w2 ⟨rfl, hb⟩; obtain ⟨b0, b1, b2, b3, b4, _⟩ := HC5.out _ hb; have HB2 := Lib.hid hb; clear hb)
          | (go_at_call 19; (with_reducible refine (HSR.out _).mono ?_); rintro e w3 ⟨rfl, hb⟩; have HB3 := Lib.hid (HB2.out.trans (hb.mono HB2.out.size)); clear hb b0 b1 b2 b3 b4; obtain ⟨b0, b1, b2, b3, b4, hx3, _⟩ := HC5.out _ HB3.out; have HX3 := Lib.hid hx3; clear hx3)
          | (go_at_call 44; (with_reducible refine (HSD2.out _ HX3.out).mono ?_); rintro e w4 ⟨x2, c2, rfl, a1, a2, a3, a4⟩; have HO := Lib.hid (And.intro a1 (And.intro a2 ((HC5.out _ (HB3.out.trans (a3.mono HB3.out.size))).2.2.2.2.2.2))); have HN4 : Hid ((x2 = x ∧ DL = ps) ∨ ∀ b off, x2 = some ⟨b, off, none⟩ → w.heap.size ≤ b) := Lib.hid (a4.imp id fun h b off e => Nat.le_trans (HC5.out _ HB3.out).2.2.2.2.2.2.size (h b off e)); clear a1 a2 a3 a4; dsimp only; rw [HDL.out]))
        go_ret2
        exact ⟨none, 0, by rw [← HRR.out]; rfl, by rw [← HRR.out]; exact PrsAt.nil_ _ _, by rw [← HRR.out]; exact Nat.le_refl _, HO.out.2.2, .inr new_none⟩
      · subst h1
        have HRR : Hid (([], 163) = R) := Lib.hid (by rw [HAP.out, if_neg (by simp), if_pos h2])
        have g1 : (500 : Int) < dl := by omega
        clear HAP hd5
        go_enter Tryz.func25, Tryz.ntmps25
        go_wp2_with (first
          | (go_at_call 43; (with_reducible refine (HSP.out _ (HB5.out _).2).mono ?_); rintro e w2 ⟨rfl, hb⟩; obtain ⟨b0, b1, b2, b3, b4, _⟩ := HC5.out _ hb; have HB2 := Lib.hid hb; clear hb)
          | (go_at_call 19; (with_reducible refine (HSR.out _).mono ?_); rintro e w3 ⟨rfl, hb⟩; have HB3 := Lib.hid (HB2.out.trans (hb.mono HB2.out.size)); clear hb b0 b1 b2 b3 b4; obtain ⟨b0, b1, b2, b3, b4, hx3, _⟩ := HC5.out _ HB3.out; have HX3 := Lib.hid hx3; clear hx3)
          | (go_at_call 44; (with_reducible refine (HSD2.out _ HX3.out).mono ?_); rintro e w4 ⟨x2, c2, rfl, a1, a2, a3, a4⟩; have HO := Lib.hid (And.intro a1 (And.intro a2 ((HC5.out _ (HB3.out.trans (a3.mono HB3.out.size))).2.2.2.2.2.2))); have HN4 : Hid ((x2 = x ∧ DL = ps) ∨ ∀ b off, x2 = some ⟨b, off, none⟩ → w.heap.size ≤ b) := Lib.hid (a4.imp id fun h b off e => Nat.le_trans (HC5.out _ HB3.out).2.2.2.2.2.2.size (h b off e)); clear a1 a2 a3 a4; dsimp only; rw [HDL.out]))
        go_ret2
        exact ⟨none, 0, by rw [← HRR.out]; rfl, by rw [← HRR.out]; exact PrsAt.nil_ _ _, by rw [← HRR.out]; exact Nat.le_refl _, HO.out.2.2, .inr new_none⟩
      · subst h1
        have HRR : Hid ((DL, 0) = R) := Lib.hid (by rw [HAP.out, if_neg (by simp), if_neg (by omega)])
        have g1 : ¬ (500 : Int) < dl := by omega
        clear HAP hd5
        go_enter Tryz.func25, Tryz.ntmps25
        go_wp2_with (first
          | (go_at_call 43; (with_reducible refine (HSP.out _ (HB5.out _).2).mono ?_); rintro e w2 ⟨rfl, hb⟩; obtain ⟨b0, b1, b2, b3, b4, _⟩ := HC5.out _ hb; have HB2 := Lib.hid hb; clear hb)
          | (go_at_call 19; (with_reducible refine (HSR.out _).mono ?_); rintro e w3 ⟨rfl, hb⟩; have HB3 := Lib.hid (HB2.out.trans (hb.mono HB2.out.size)); clear hb b0 b1 b2 b3 b4; obtain ⟨b0, b1, b2, b3, b4, hx3, _⟩ := HC5.out _ HB3.out; have HX3 := Lib.hid hx3; clear hx3)
          | (go_at_call 44; (with_reducible refine (HSD2.out _ HX3.out).mono ?_); rintro e w4 ⟨x2, c2, rfl, a1, a2, a3, a4⟩; have HO := Lib.hid (And.intro a1 (And.intro a2 ((HC5.out _ (HB3.out.trans (a3.mono HB3.out.size))).2.2.2.2.2.2))); have HN4 : Hid ((x2 = x ∧ DL = ps) ∨ ∀ b off, x2 = some ⟨b, off, none⟩ → w.heap.size ≤ b) := Lib.hid (a4.imp id fun h b off e => Nat.le_trans (HC5.out _ HB3.out).2.2.2.2.2.2.size (h b off e)); clear a1 a2 a3 a4; dsimp only; rw [HDL.out]))
        go_ret2
        exact ⟨x2, c2, by rw [← HRR.out]; show _ = Ending.returned (.tuple #[.slice x2 DL.length c2, .int .i64 0]); rw [HDL.out]; rfl, by rw [← HRR.out]; exact HO.out.1, by rw [← HRR.out]; exact HO.out.2.1, HO.out.2.2, by rw [← HRR.out]; exact HN4.out⟩
end Go.Proofs.YticcdighfojjjaaGreatDoor
