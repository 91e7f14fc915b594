/-
  StpRef4.
-/
import Derived.Test.YticcdighfojjjaaGreatDoorQStpRef3
import Derived.Test.YticcdighfojjjaaGreatDoorQStpBack
namespace Go.Proofs.YticcdighfojjjaaGreatDoor
open Go.ChangeShapes Go.WideShapes Go.ChangeAt Go.RowKit

theorem find_no {ps : List PairV} {t k : ByteArray} (h : hasP ps t k = false) : findI ps t k = -1 := by unfold findI; rw [h]; rfl
theorem find_yes {ps : List PairV} {t k : ByteArray} (h : hasP ps t k = true) : findI ps t k = (posP ps t k : Int) := by unfold findI; rw [h]; rfl
theorem filter_all (f : PairV → Bool) (ps : List PairV) : (ps.filter f).length ≤ ps.length := List.length_filter_le _ _
set_option maxHeartbeats 3200000 in
set_option maxRecDepth 100000 in
theorem smoved_any (ps : List PairV) (x : Option Addr) (n c : Nat) (s : StepV) (w : World) (h : PrsAt w x ps) (hn : ps.length = n) (hc : n ≤ c) (hl : n ≤ 2147483647) :
    Calls Tryz.prog 72 #[.slice x n c, sV s] w (DoesRes w (x, ps) (movP ps s)) := by
  obtain ⟨kd, tb, ky, to, tx⟩ := s
  have HX := Lib.hid h
  have HN := Lib.hid hn
  have HC := Lib.hid hc
  unfold sV
  dsimp only
  have HF1 : Hid (∀ W, PrsAt W x ps → (Calls Tryz.prog 67 #[.slice x n c, .string tb, .string ky] W fun e w' => e = .returned (.int .i64 (findI ps tb ky)) ∧ W = w') ∧ (Calls Tryz.prog 67 #[.slice x n c, .string tb, .string to] W fun e w' => e = .returned (.int .i64 (findI ps tb to)) ∧ W = w')) := Lib.hid fun W hx => ⟨refFind_any ps x n c tb ky W hx hn hl, refFind_any ps x n c tb to W hx hn hl⟩
  have HX1 : Hid (∀ o : Obj, PrsAt (w.alloc o) x ps) := Lib.hid fun o => h.below (below_one w o)
  cases hk : hasP ps tb ky with
  | false =>
    have hv : movP ps ⟨kd, tb, ky, to, tx⟩ = (ps, 0) := by unfold movP; rw [dif_neg (fun hp => by rw [posP_lt.1 hp] at hk; cases hk)]
    rw [hv]
    rw [find_no hk] at HF1
    clear hk hv h hn hc
    go_enter Tryz.func72, Tryz.ntmps72
    go_wp2_with (go_at_call 67; (with_reducible refine (HF1.out _ (HX1.out _)).1.mono ?_); rintro e w' ⟨rfl, rfl⟩)
    go_ret2
    exact ⟨x, c, by rw [HN.out]; rfl, HX1.out _, by rw [HN.out]; exact HC.out, below_one _ _, .inl ⟨rfl, rfl⟩⟩
  | true =>
    obtain ⟨hp, hm1, hm2, hm3⟩ := pos_pair hk
    rw [find_yes hk] at HF1
    cases ht : hasP ps tb to with
    | true =>
      have hv : movP ps ⟨kd, tb, ky, to, tx⟩ = ([], 161) := by unfold movP; rw [dif_pos hp, if_pos ht]
      rw [hv]
      rw [find_yes ht] at HF1
      generalize posP ps tb ky = i at HF1
      generalize posP ps tb to = j at HF1
      have q1 : ¬ (i : Int) < 0 := by omega
      have q2 : (0 : Int) ≤ j := by omega
      clear hk hv h hn hc ht hp hm1 hm2 hm3
      go_enter Tryz.func72, Tryz.ntmps72
      go_wp2_with (go_at_call 67; first | ((with_reducible refine (HF1.out _ (HX1.out _)).1.mono ?_); rintro e w' ⟨rfl, rfl⟩) | ((with_reducible refine (HF1.out _ (HX1.out _)).2.mono ?_); rintro e w' ⟨rfl, rfl⟩))
      go_ret2
      exact ⟨none, 0, rfl, PrsAt.nil_ _ _, Nat.le_refl _, below_one _ _, .inr new_none⟩
    | false =>
      have hv : movP ps ⟨kd, tb, ky, to, tx⟩ = (insP (if kd = 3 then dropP ps tb ky else ps) ⟨tb, to, ps[posP ps tb ky].value⟩, 0) := by unfold movP; rw [dif_pos hp, if_neg (by simp [ht])]
      rw [hv]
      rw [find_no ht] at HF1
      obtain ⟨b, off, hx, hbl, c0, c1, c2⟩ := h (posP ps tb ky) hp
      have hin : posP ps tb ky < n := by omega
      generalize ps[posP ps tb ky].value = vv at c2 ⊢
      clear c0 c1 hk hv ht hm1 hm2 hm3 hp
      generalize posP ps tb ky = i at HF1 c2 hin
      have q1 : ¬ (i : Int) < 0 := by omega
      have q2 : (0 : Int) ≤ i := by omega
      have q3 : (i : Int) < n := by omega
      have HC2 : Hid (∀ W, Below w.heap.size w W → W.cell? ⟨b, off + i * 3 + 2, none⟩ = some (.string vv)) := Lib.hid fun W hb => (hb.cell (p := ⟨b, off + i * 3 + 2, none⟩) hbl).trans c2
      have d1 : ∀ o : Obj, (w.alloc o).cell? ⟨b, off + i * 3 + 2, none⟩ = some (.string vv) := fun o => HC2.out _ (below_one w o)
      have d2 : ∀ o o' : Obj, ((w.alloc o).alloc o').cell? ⟨b, off + i * 3 + 2, none⟩ = some (.string vv) := fun o o' => HC2.out _ (below_two w o o')
      have HBT : Hid (∀ o o' : Obj, ∀ u v x : Value, Below w.heap.size w (((((w.alloc o).alloc o').drew.setCell ⟨w.heap.size + 1, 0, none⟩ u).setCell ⟨w.heap.size + 1, 1, none⟩ v).setCell ⟨w.heap.size + 1, 2, none⟩ x)) := Lib.hid fun o o' u v x => (((below_two w o o').drew.setCell (p := ⟨w.heap.size + 1, 0, none⟩) (by simp) u).setCell (p := ⟨w.heap.size + 1, 1, none⟩) (by simp) v).setCell (p := ⟨w.heap.size + 1, 2, none⟩) (by simp) x
      clear c2 h hn hc hbl
      subst hx
      by_cases k3 : kd = 3
      · subst k3
        rw [if_pos rfl]
        go_enter Tryz.func72, Tryz.ntmps72
        go_wp2_with (go_at_call 67; first | ((with_reducible refine (HF1.out _ (HX1.out _)).1.mono ?_); rintro e w' ⟨rfl, rfl⟩) | ((with_reducible refine (HF1.out _ (HX1.out _)).2.mono ?_); rintro e w' ⟨rfl, rfl⟩))
        go_region
        all_goals
          have HBW : Hid (Below w.heap.size w ((w.alloc (Obj.cells #[.int .i64 3, .string tb, .string ky, .string to, .string tx] 35)).alloc (Obj.cells #[.string tb, .string to, .string vv] 51)).drew) := Lib.hid (below_two _ _ _).drew
          have HCW : Hid (∀ W', Below (((w.alloc (Obj.cells #[.int .i64 3, .string tb, .string ky, .string to, .string tx] 35)).alloc (Obj.cells #[.string tb, .string to, .string vv] 51)).drew).heap.size (((w.alloc (Obj.cells #[.int .i64 3, .string tb, .string ky, .string to, .string tx] 35)).alloc (Obj.cells #[.string tb, .string to, .string vv] 51)).drew) W' → W'.cell? ⟨w.heap.size + 1, 0, none⟩ = some (.string tb) ∧ W'.cell? ⟨w.heap.size + 1, 1, none⟩ = some (.string to) ∧ W'.cell? ⟨w.heap.size + 1, 2, none⟩ = some (.string vv)) := Lib.hid fun W' hb => by
            refine ⟨?_, ?_, ?_⟩
            all_goals rw [hb.cell (by simp)]; simp
          have HXW := Lib.hid (HX.out.below HBW.out)
          clear d1 d2 HBT HF1 HX1
          go_wp2_with (first
            | (go_at_call 69; (with_reducible refine (refBut_any ps _ n c tb ky _ HXW.out HN.out hl).mono ?_); rintro e w2 ⟨v, rfl, ho⟩; obtain ⟨x2, c2, rfl, hp2, hc2⟩ := ho.some_; obtain ⟨e0, e1, e2⟩ := HCW.out w2 ho.below; have HP2 := Lib.hid hp2; have HC2' := Lib.hid hc2; have HB2 := Lib.hid (HBW.out.trans (ho.below.mono HBW.out.size)); clear ho hp2 hc2)
            | (go_at_call 68; (with_reducible refine (refWith_any (dropP ps tb ky) x2 _ c2 ⟨tb, to, vv⟩ _ HP2.out rfl HC2'.out (by have := filter_all (keepP tb ky) ps; have := HN.out; unfold dropP; omega)).mono ?_); rintro e w3 ⟨v3, rfl, ho3⟩; obtain ⟨x3, c3, rfl, hp3, hc3⟩ := ho3.some_; have HP3 := Lib.hid hp3; have HC3 := Lib.hid hc3; have HN3 : Hid (∀ b off, x3 = some ⟨b, off, none⟩ → w.heap.size ≤ b) := Lib.hid (fun b off e => Nat.le_trans HB2.out.size (ho3.new_ b off e)); have HB3 := Lib.hid (HB2.out.trans (ho3.below.mono HB2.out.size)); clear ho3 hp3 hc3))
          go_ret2
          exact ⟨x3, c3, rfl, HP3.out, HC3.out, HB3.out, .inr HN3.out⟩
      · rw [if_neg k3]
        have g3 : (kd == 3) = false := beq_eq_false_iff_ne.2 k3
        clear k3
        go_enter Tryz.func72, Tryz.ntmps72
        go_wp2_with (go_at_call 67; first | ((with_reducible refine (HF1.out _ (HX1.out _)).1.mono ?_); rintro e w' ⟨rfl, rfl⟩) | ((with_reducible refine (HF1.out _ (HX1.out _)).2.mono ?_); rintro e w' ⟨rfl, rfl⟩))
        go_region
        all_goals
          have HBW : Hid (Below w.heap.size w ((w.alloc (Obj.cells #[.int .i64 kd, .string tb, .string ky, .string to, .string tx] 35)).alloc (Obj.cells #[.string tb, .string to, .string vv] 51)).drew) := Lib.hid (below_two _ _ _).drew
          have HXW := Lib.hid (HX.out.below HBW.out)
          clear d1 d2 HBT HF1 HX1
          go_wp2_with (go_at_call 68; (with_reducible refine (refWith_any ps _ n c ⟨tb, to, vv⟩ _ HXW.out HN.out HC.out hl).mono ?_); rintro e w3 ⟨v3, rfl, ho3⟩; obtain ⟨x3, c3, rfl, hp3, hc3⟩ := ho3.some_; have HP3 := Lib.hid hp3; have HC3 := Lib.hid hc3; have HN3 : Hid (∀ b off, x3 = some ⟨b, off, none⟩ → w.heap.size ≤ b) := Lib.hid (fun b off e => Nat.le_trans HBW.out.size (ho3.new_ b off e)); have HB3 := Lib.hid (HBW.out.trans (ho3.below.mono HBW.out.size)); clear ho3 hp3 hc3)
          go_ret2
          exact ⟨x3, c3, rfl, HP3.out, HC3.out, HB3.out, .inr HN3.out⟩
end Go.Proofs.YticcdighfojjjaaGreatDoor
