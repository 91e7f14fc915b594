/-
  StpBack0.
-/
import Derived.Test.YticcdighfojjjaaGreatDoorQStpAwake
import Derived.Test.YticcdighfojjjaaGreatDoorQStpWeigh2
import Derived.Deep.CutRange
import Derived.WalkSpells
namespace Go.Proofs.YticcdighfojjjaaGreatDoor
open Go.ChangeShapes Go.WideShapes Go.ChangeAt Go.RowKit

theorem prs_of_pairsR {ps : List PairV} (h : pairsB ps = true) : PrsOk ps := fun p hp => by
  have := okP_iff.1 ((pairsB_iff.1 h).2.1 p hp)
  obtain ⟨h1, h2, h3⟩ := this
  unfold wordA wordB at h1 h2
  simp only [Bool.and_eq_true, decide_eq_true_eq] at h1 h2
  have l1 := data_len p.table
  have l2 := data_len p.key
  exact ⟨by omega, by omega, by omega⟩
theorem apply_lenR {ps : List PairV} {s : StepV} : (applyP ps s).1.length ≤ 500 := by
  by_cases h : (applyP ps s).2 = 0
  · exact (pairsB_iff.1 (apply_out h)).1
  · rw [apply_err h]; simp
theorem apply_prs {ps : List PairV} {s : StepV} : PrsOk (applyP ps s).1 := by
  by_cases h : (applyP ps s).2 = 0
  · exact prs_of_pairsR (apply_out h)
  · rw [apply_err h]; intro p hp; cases hp
/-- What Apply answers, with its length named. -/
def ApR (r : List PairV × Int) (W : World) (e : Ending) (w' : World) : Prop := ∃ y m d, e = .returned (.tuple #[.slice y m d, .int .i64 r.2]) ∧ PrsAt w' y r.1 ∧ r.1.length = m ∧ m ≤ d ∧ Below W.heap.size W w'
theorem papply_r (ps : List PairV) (x : Option Addr) (n c : Nat) (s : StepV) (w : World) (h : PrsAt w x ps) (hn : ps.length = n) (hc : n ≤ c) (hl : n ≤ 2147483647) (hok : PrsOk ps) (hs : StepOk s) (hT : StdS w) :
    Calls Tryz.prog 23 #[.slice x n c, sV s] w (ApR (applyP ps s) w) := by
  refine (papply_any ps x n c s w h hn hc hl hok hs hT).mono ?_
  rintro e w' ⟨v, rfl, ho⟩
  obtain ⟨y, d, rfl, h1, h2⟩ := ho.some_
  exact ⟨y, _, d, rfl, h1, rfl, h2, ho.below⟩
theorem sm_ok {k : Int} {a b c d : ByteArray} (h1 : a.size ≤ 2147483647) (h2 : b.size ≤ 2147483647) (h3 : c.size ≤ 2147483647) (h4 : d.size ≤ 2147483647) : StepOk ⟨k, a, b, c, d⟩ := by
  refine ⟨?_, ?_, ?_, ?_⟩ <;> (unfold maxLen; dsimp only; omega)
set_option maxHeartbeats 6400000 in
set_option maxRecDepth 100000 in
theorem stepBack_any (ps : List PairV) (x : Option Addr) (n c : Nat) (tb ky tt tx : ByteArray) (w : World) (h : PrsAt w x ps) (hn : ps.length = n) (hc : n ≤ c) (hl : n ≤ maxLen) (hz : ∀ p ∈ ps, p.table.size ≤ maxLen ∧ p.key.size ≤ maxLen ∧ p.value.size ≤ maxLen)
    (s1 : tb.size ≤ maxLen) (s2 : ky.size ≤ maxLen) (s3 : tt.size ≤ maxLen) (s4 : tx.size ≤ maxLen) (hT : StdS w) :
    Calls Tryz.prog 8 #[.slice x n c, .string tb, .string ky, .string tt, .string tx] w fun e w' => e = .returned (.bool true) ∧ Below w.heap.size w w' := by
  have HX := Lib.hid h
  have HN := Lib.hid hn
  have HC := Lib.hid hc
  have HT := Lib.hid (fun W hb => hT.below (w' := W) hb)
  have HPW := Lib.hid (pweigh_any ps x n c w h hn hl hz)
  have HAW : Hid (∀ W, Below w.heap.size w W → Calls Tryz.prog 10 #[] W fun e w' => e = .returned (.bool true) ∧ Below W.heap.size W w') := Lib.hid fun W hb => lawake_any W (hT.below hb)
  unfold maxLen at s1 s2 s3 s4
  have hA : Hid (∀ W, Calls Tryz.prog 16 #[.int .i64 (tb.size : Int), .int .i64 (ky.size : Int)] W fun e w' => e = .returned (.int .i64 (addU tb.size ky.size : Nat)) ∧ W = w') := Lib.hid fun W => addU_any _ _ W (by omega) (by omega)
  have hB : Hid (∀ W, Calls Tryz.prog 16 #[.int .i64 (tt.size : Int), .int .i64 (tx.size : Int)] W fun e w' => e = .returned (.int .i64 (addU tt.size tx.size : Nat)) ∧ W = w') := Lib.hid fun W => addU_any _ _ W (by omega) (by omega)
  have hC : Hid (∀ W, Calls Tryz.prog 16 #[.int .i64 (addU tb.size ky.size : Nat), .int .i64 (addU tt.size tx.size : Nat)] W fun e w' => e = .returned (.int .i64 (addU (addU tb.size ky.size) (addU tt.size tx.size) : Nat)) ∧ W = w') := Lib.hid fun W => addU_any _ _ W (by have := addU_le tb.size ky.size; omega) (by have := addU_le tt.size tx.size; omega)
  have hD : Hid (∀ (N : Nat) W, N ≤ 4294967294 → Calls Tryz.prog 16 #[.int .i64 (N : Int), .int .i64 (addU (addU tb.size ky.size) (addU tt.size tx.size) : Nat)] W fun e w' => e = .returned (.int .i64 (addU N (addU (addU tb.size ky.size) (addU tt.size tx.size)) : Nat)) ∧ W = w') := Lib.hid fun N W h => addU_any _ _ W (by omega) (by have := addU_le (addU tb.size ky.size) (addU tt.size tx.size); omega)
  have HS : Hid (addU (addU tb.size ky.size) (addU tt.size tx.size) ≤ 2147483647 → tb.size ≤ 2147483647 ∧ ky.size ≤ 2147483647 ∧ tt.size ≤ 2147483647 ∧ tx.size ≤ 2147483647) := Lib.hid fun h => by
    obtain ⟨a1, a2⟩ := addU_in h
    obtain ⟨a3, a4⟩ := addU_in a1
    obtain ⟨a5, a6⟩ := addU_in a2
    exact ⟨a3, a4, a5, a6⟩
  generalize addU (addU tb.size ky.size) (addU tt.size tx.size) = N3 at hC hD HS
  generalize addU tb.size ky.size = N1 at hA hC
  generalize addU tt.size tx.size = N2 at hB hC
  clear s1 s2 s3 s4 h hn hc hl hz hT
  go_enter Tryz.func8, Tryz.ntmps8
  go_wp2_with fail
  refine HPW.out.mono ?_
  rintro e w2 ⟨NP, rfl, hNP, hok, hb⟩
  have HB2 := Lib.hid hb
  have HOK := Lib.hid hok
  clear hok hb HPW
  go_wp2_with fail
  refine (hA.out _).mono ?_
  rintro e w' ⟨rfl, rfl⟩
  go_wp2_with fail
  refine (hB.out _).mono ?_
  rintro e w' ⟨rfl, rfl⟩
  go_wp2_with fail
  refine (hC.out _).mono ?_
  rintro e w' ⟨rfl, rfl⟩
  go_wp2_with fail
  refine (hD.out NP _ hNP).mono ?_
  rintro e w' ⟨rfl, rfl⟩
  clear hA hB hC hD
  by_cases hbig : 2147483647 < addU NP N3
  · have g0 : (2147483647 : Int) < (addU NP N3 : Nat) := by omega
    go_wp2
    go_ret
    exact ⟨rfl, HB2.out⟩
  have g0 : ¬ (2147483647 : Int) < (addU NP N3 : Nat) := by omega
  obtain ⟨ha1, ha2⟩ := addU_in (by omega : addU NP N3 ≤ 2147483647)
  obtain ⟨hn31, hok⟩ := HOK.out ha1
  have HOK2 := Lib.hid hok
  have HSM := Lib.hid (HS.out ha2)
  generalize addU NP N3 = NN at g0 hbig ⊢
  clear HOK HS hok ha1 ha2 hNP hbig
  have HAP : Hid (∀ (s : StepV), StepOk s → ∀ W, Below w.heap.size w W → Calls Tryz.prog 23 #[.slice x n c, sV s] W (ApR (applyP ps s) W)) := Lib.hid fun s hs W hb => papply_r ps x n c s W (HX.out.below hb) HN.out HC.out hn31 HOK2.out hs (HT.out W hb)
  have HLS : Hid (∀ W (us : List PairV) (y : Option Addr) (m d : Nat), Below w.heap.size w W → PrsAt W y us → us.length = m → m ≤ 500 → Calls Tryz.prog 27 #[.slice y m d, .slice x n c] W fun e w' => e = .returned (.bool (sameB us ps)) ∧ Below W.heap.size W w') := Lib.hid fun W us y m d hb hy hm h5 => lsame_any us ps y x m n d c W hy (HX.out.below hb) hm HN.out (by omega)
  have hem : emB.size ≤ 2147483647 := by decide
  -- what was put is dropped
  have HP1 : Hid (∀ W, Below w.heap.size w W → Calls Tryz.prog 23 #[.slice x n c, .agg #[.int .i64 1, .string tb, .string ky, .string ⟨#[]⟩, .string tx]] W (ApR (applyP ps ⟨1, tb, ky, emB, tx⟩) W)) := Lib.hid fun W hb => HAP.out ⟨1, tb, ky, emB, tx⟩ (sm_ok HSM.out.1 HSM.out.2.1 hem HSM.out.2.2.2) W hb
  go_wp2_with fail
  refine (HAW.out _ HB2.out).mono ?_
  rintro e w3 ⟨rfl, hb⟩
  have HB3 := Lib.hid (HB2.out.trans (hb.mono HB2.out.size))
  clear hb HB2 HAW g0
  go_wp2_with fail
  refine (HP1.out _ HB3.out).mono ?_
  rintro e w4 ⟨ya, ma, da, rfl, hpa, hma, hda, hb⟩
  have HB4 := Lib.hid (HB3.out.trans (hb.mono HB3.out.size))
  have HPA := Lib.hid hpa
  have HMA := Lib.hid hma
  clear hpa hma hb HB3 HP1
  have HBK : Hid ((applyP ps ⟨1, tb, ky, emB, tx⟩).2 = 0 → applyP (applyP ps ⟨1, tb, ky, emB, tx⟩).1 ⟨2, tb, ky, emB, emB⟩ = (ps, 0) ∧ ma = n + 1) := Lib.hid fun h => by
    obtain ⟨h1, h2⟩ := back_put h
    exact ⟨h1, by rw [← HMA.out, h2, HN.out]⟩
  have HLA : Hid ((applyP ps ⟨1, tb, ky, emB, tx⟩).1.length ≤ 500 ∧ PrsOk (applyP ps ⟨1, tb, ky, emB, tx⟩).1) := Lib.hid ⟨apply_lenR, apply_prs⟩
  generalize applyP ps ⟨1, tb, ky, emB, tx⟩ = RA at HBK HPA HMA HLA ⊢
  obtain ⟨A, E⟩ := RA
  dsimp only at HBK HPA HMA HLA ⊢
  have hma5 : ma ≤ 500 := by rw [← HMA.out]; exact HLA.out.1
  go_upto_if 59 with fail
  go_cut [] from 14 to 84 (fun wx => Hid (Below w.heap.size w wx))
  case first =>
    by_cases h0 : E = 0
    · subst h0
      obtain ⟨hk1, hk2⟩ := HBK.out rfl
      have HD : Hid (Calls Tryz.prog 23 #[.slice ya ma da, .agg #[.int .i64 2, .string tb, .string ky, .string ⟨#[]⟩, .string ⟨#[]⟩]] w4 (ApR (ps, 0) w4)) := Lib.hid (by
        rw [← hk1]
        exact papply_r A ya ma da ⟨2, tb, ky, emB, emB⟩ w4 HPA.out HMA.out hda (by omega) HLA.out.2 (sm_ok HSM.out.1 HSM.out.2.1 hem hem) (HT.out _ HB4.out))
      subst hk2
      clear HBK
      go_wp2_with fail
      refine HD.out.mono ?_
      rintro e w5 ⟨yb, mb, db, rfl, hpb, hmb, hdb, hb⟩
      have HB5 := Lib.hid (HB4.out.trans (hb.mono HB4.out.size))
      have HPB := Lib.hid hpb
      have HMB := Lib.hid hmb
      have hmb5 : mb ≤ 500 := by have := HMB.out; have := HN.out; dsimp only at *; omega
      clear hpb hmb hb HD
      go_wp2_with fail
      refine (HLS.out _ ps yb mb db HB5.out HPB.out HMB.out hmb5).mono ?_
      rintro e w6 ⟨rfl, hb⟩
      rw [sameB_self]
      have HB6 := Lib.hid (HB5.out.trans (hb.mono HB5.out.size))
      clear hb HPB HMB hmb5 hdb HB5 HPA HMA HLA hma5 hda hk1
      have w5' : IntKind.i64.wrap ((n : Int) + 1) = (n : Int) + 1 := IntWalk.i64_in _ (by omega)
      go_wp2
      go_meet
      exact HB6
    · have g1 : (E == 0) = false := by rw [beq_eq_false_iff_ne]; exact h0
      clear HBK h0
      go_wp2
      go_meet
      exact HB4
  case rest =>
    have HB5 : Hid (Below w.heap.size w wc) := hcut
    clear hcut HB4 HPA HMA HLA HBK hma5 hda
    have HP2 : Hid (∀ W, Below w.heap.size w W → Calls Tryz.prog 23 #[.slice x n c, .agg #[.int .i64 3, .string tb, .string ky, .string tt, .string ⟨#[]⟩]] W (ApR (applyP ps ⟨3, tb, ky, tt, emB⟩) W)) := Lib.hid fun W hb => HAP.out ⟨3, tb, ky, tt, emB⟩ (sm_ok HSM.out.1 HSM.out.2.1 HSM.out.2.2.1 hem) W hb
    go_wp2_with fail
    refine (HP2.out _ HB5.out).mono ?_
    rintro e w4 ⟨ya, ma, da, rfl, hpa, hma, hda, hb⟩
    have HB4 := Lib.hid (HB5.out.trans (hb.mono HB5.out.size))
    have HPA := Lib.hid hpa
    have HMA := Lib.hid hma
    clear hpa hma hb HP2 HB5
    have HBK : Hid ((applyP ps ⟨3, tb, ky, tt, emB⟩).2 = 0 → ma = n ∧ ((applyP ps ⟨3, tb, ky, tt, emB⟩).1 = ps ∨ applyP (applyP ps ⟨3, tb, ky, tt, emB⟩).1 ⟨3, tb, tt, ky, emB⟩ = (ps, 0))) := Lib.hid fun h => by
      obtain ⟨h1, h2⟩ := back_ren h
      exact ⟨by rw [← HMA.out, h1, HN.out], h2⟩
    have HLA : Hid ((applyP ps ⟨3, tb, ky, tt, emB⟩).1.length ≤ 500 ∧ PrsOk (applyP ps ⟨3, tb, ky, tt, emB⟩).1) := Lib.hid ⟨apply_lenR, apply_prs⟩
    generalize applyP ps ⟨3, tb, ky, tt, emB⟩ = RA at HBK HPA HMA HLA ⊢
    obtain ⟨A, E⟩ := RA
    dsimp only at HBK HPA HMA HLA ⊢
    have hma5 : ma ≤ 500 := by rw [← HMA.out]; exact HLA.out.1
    go_upto_if 95 with fail
    go_cut [] from 17 to 127 (fun wx => Hid (Below w.heap.size w wx))
    case first =>
      by_cases h0 : E = 0
      · subst h0
        obtain ⟨hk1, hk2⟩ := HBK.out rfl
        subst hk1
        have HD : Hid (Calls Tryz.prog 23 #[.slice ya ma da, .agg #[.int .i64 3, .string tb, .string tt, .string ky, .string ⟨#[]⟩]] w4 (ApR (applyP A ⟨3, tb, tt, ky, emB⟩) w4)) := Lib.hid (papply_r A ya ma da ⟨3, tb, tt, ky, emB⟩ w4 HPA.out HMA.out hda (by omega) HLA.out.2 (sm_ok HSM.out.1 HSM.out.2.2.1 HSM.out.2.1 hem) (HT.out _ HB4.out))
        have HLB : Hid ((applyP A ⟨3, tb, tt, ky, emB⟩).1.length ≤ 500) := Lib.hid apply_lenR
        have HK2 := Lib.hid hk2
        generalize applyP A ⟨3, tb, tt, ky, emB⟩ = RB at HD HLB HK2
        clear HBK hk2
        go_wp2_with fail
        refine HD.out.mono ?_
        rintro e w5 ⟨yb, mb, db, rfl, hpb, hmb, hdb, hb⟩
        have HB5 := Lib.hid (HB4.out.trans (hb.mono HB4.out.size))
        have HPB := Lib.hid hpb
        have HMB := Lib.hid hmb
        have HPA2 := Lib.hid (HPA.out.below hb)
        have hmb5 : mb ≤ 500 := by have := HMB.out; have := HLB.out; omega
        clear hpb hmb hb HD HB4 HPA
        go_wp2_with fail
        refine (HLS.out _ RB.1 yb mb db HB5.out HPB.out HMB.out hmb5).mono ?_
        rintro e w6 ⟨rfl, hb⟩
        have HB6 := Lib.hid (HB5.out.trans (hb.mono HB5.out.size))
        have HPA3 := Lib.hid (HPA2.out.below hb)
        clear hb HPB HMB hmb5 hdb HB5 HPA2
        obtain ⟨Z1, hZ1⟩ : ∃ Z, sameB RB.1 ps = Z := ⟨_, rfl⟩
        have HZ1 := Lib.hid hZ1
        rw [hZ1]
        clear hZ1
        go_wp2_with fail
        refine (HLS.out _ A ya ma da HB6.out HPA3.out HMA.out hma5).mono ?_
        rintro e w7 ⟨rfl, hb⟩
        have HB7 := Lib.hid (HB6.out.trans (hb.mono HB6.out.size))
        clear hb HB6 HPA3 HMA HLA hma5 hda
        rcases HK2.out with hk | hk
        · subst hk
          rw [sameB_self]
          go_wp2
          go_meet
          exact HB7
        · subst hk
          have hz : Z1 = true := by rw [← HZ1.out]; exact sameB_self _
          subst hz
          cases sameB A ps
          all_goals
            go_wp2
            go_meet
            exact HB7
      · have g1 : (E == 0) = false := by rw [beq_eq_false_iff_ne]; exact h0
        clear HBK h0
        go_wp2
        go_meet
        exact HB4
    case rest =>
      have HB5 : Hid (Below w.heap.size w wc) := hcut
      clear hcut HB4 HPA HMA HLA HBK hma5 hda
      have HP3 : Hid (∀ W, Below w.heap.size w W → Calls Tryz.prog 23 #[.slice x n c, .agg #[.int .i64 4, .string tb, .string ⟨#[]⟩, .string tt, .string ⟨#[]⟩]] W (ApR (applyP ps ⟨4, tb, emB, tt, emB⟩) W)) := Lib.hid fun W hb => HAP.out ⟨4, tb, emB, tt, emB⟩ (sm_ok HSM.out.1 hem HSM.out.2.2.1 hem) W hb
      go_wp2_with fail
      refine (HP3.out _ HB5.out).mono ?_
      rintro e w4 ⟨ya, ma, da, rfl, hpa, hma, hda, hb⟩
      have HB4 := Lib.hid (HB5.out.trans (hb.mono HB5.out.size))
      have HPA := Lib.hid hpa
      have HMA := Lib.hid hma
      clear hpa hma hb HP3 HB5
      have HBK : Hid ((applyP ps ⟨4, tb, emB, tt, emB⟩).2 = 0 → ma = n ∧ ((applyP ps ⟨4, tb, emB, tt, emB⟩).1 = ps ∨ applyP (applyP ps ⟨4, tb, emB, tt, emB⟩).1 ⟨4, tt, emB, tb, emB⟩ = (ps, 0))) := Lib.hid fun h => by
        obtain ⟨h1, h2⟩ := back_tab h
        exact ⟨by rw [← HMA.out, h1, HN.out], h2⟩
      have HLA : Hid ((applyP ps ⟨4, tb, emB, tt, emB⟩).1.length ≤ 500 ∧ PrsOk (applyP ps ⟨4, tb, emB, tt, emB⟩).1) := Lib.hid ⟨apply_lenR, apply_prs⟩
      generalize applyP ps ⟨4, tb, emB, tt, emB⟩ = RA at HBK HPA HMA HLA ⊢
      obtain ⟨A, E⟩ := RA
      dsimp only at HBK HPA HMA HLA ⊢
      have hma5 : ma ≤ 500 := by rw [← HMA.out]; exact HLA.out.1
      go_upto_if 137 with fail
      go_cut [] from 21 to 168 (fun wx => Hid (Below w.heap.size w wx))
      case first =>
        by_cases h0 : E = 0
        · subst h0
          obtain ⟨hk1, hk2⟩ := HBK.out rfl
          subst hk1
          have HD : Hid (∀ W, Below w4.heap.size w4 W → Calls Tryz.prog 23 #[.slice ya ma da, .agg #[.int .i64 4, .string tt, .string ⟨#[]⟩, .string tb, .string ⟨#[]⟩]] W (ApR (applyP A ⟨4, tt, emB, tb, emB⟩) W)) := Lib.hid fun W hb => papply_r A ya ma da ⟨4, tt, emB, tb, emB⟩ W (HPA.out.below hb) HMA.out hda (by omega) HLA.out.2 (sm_ok HSM.out.2.2.1 hem HSM.out.1 hem) (HT.out _ (HB4.out.trans (hb.mono HB4.out.size)))
          have HLB : Hid ((applyP A ⟨4, tt, emB, tb, emB⟩).1.length ≤ 500) := Lib.hid apply_lenR
          have HK2 := Lib.hid hk2
          generalize applyP A ⟨4, tt, emB, tb, emB⟩ = RB at HD HLB HK2
          clear HBK hk2
          go_wp2_with fail
          refine (HLS.out _ A ya ma da HB4.out HPA.out HMA.out hma5).mono ?_
          rintro e w5 ⟨rfl, hb⟩
          have HB5 := Lib.hid (HB4.out.trans (hb.mono HB4.out.size))
          have HD2 := Lib.hid (HD.out _ hb)
          clear hb HPA HMA HLA hma5 hda HB4 HD
          obtain ⟨Z1, hZ1⟩ : ∃ Z, sameB A ps = Z := ⟨_, rfl⟩
          have HZ1 := Lib.hid hZ1
          rw [hZ1]
          clear hZ1
          go_wp2_with fail
          refine HD2.out.mono ?_
          rintro e w6 ⟨yb, mb, db, rfl, hpb, hmb, hdb, hb⟩
          have HB6 := Lib.hid (HB5.out.trans (hb.mono HB5.out.size))
          have HPB := Lib.hid hpb
          have HMB := Lib.hid hmb
          have hmb5 : mb ≤ 500 := by have := HMB.out; have := HLB.out; omega
          clear hpb hmb hb HB5 HD2
          go_wp2_with fail
          refine (HLS.out _ RB.1 yb mb db HB6.out HPB.out HMB.out hmb5).mono ?_
          rintro e w7 ⟨rfl, hb⟩
          have HB7 := Lib.hid (HB6.out.trans (hb.mono HB6.out.size))
          clear hb HB6 HPB HMB hmb5 hdb
          rcases HK2.out with hk | hk
          · subst hk
            have hz : Z1 = true := by rw [← HZ1.out]; exact sameB_self _
            subst hz
            go_wp2
            go_meet
            exact HB7
          · subst hk
            rw [sameB_self]
            cases Z1
            all_goals
              go_wp2
              go_meet
              exact HB7
        · have g1 : (E == 0) = false := by rw [beq_eq_false_iff_ne]; exact h0
          clear HBK h0
          go_wp2
          go_meet
          exact HB4
      case rest =>
        have HB5 : Hid (Below w.heap.size w wc) := hcut
        clear hcut HB4 HPA HMA HLA HBK hma5 hda
        have HPM : Hid (∀ (nm : ByteArray), nm.size ≤ 2147483647 → ∀ W, Below w.heap.size w W → Calls Tryz.prog 23 #[.slice x n c, .agg #[.int .i64 5, .string tb, .string ⟨#[]⟩, .string ⟨#[]⟩, .string nm]] W (ApR (applyP ps ⟨5, tb, emB, emB, nm⟩) W)) := Lib.hid fun nm hnm W hb => HAP.out ⟨5, tb, emB, emB, nm⟩ (sm_ok HSM.out.1 hem hem hnm) W hb
        have HNM0 : Hid (∀ W : World, ∀ t : Nat, t < 3 → ∃ nm : ByteArray, OnceF nm ∧ nm.size ≤ 5 ∧ (W.alloc (Obj.cells #[.string ⟨#[108, 111, 119, 101, 114]⟩, .string ⟨#[117, 112, 112, 101, 114]⟩, .string ⟨#[116, 114, 105, 109]⟩] 9)).cell? ⟨W.heap.size, t, none⟩ = some (.string nm)) := Lib.hid fun W t ht => by
          rcases (by omega : t = 0 ∨ t = 1 ∨ t = 2) with rfl | rfl | rfl
          · exact ⟨mkB lowN, .inl rfl, by decide, by simp; rfl⟩
          · exact ⟨mkB uppN, .inr (.inl rfl), by decide, by simp; rfl⟩
          · exact ⟨mkB trmN, .inr (.inr rfl), by decide, by simp; rfl⟩
        go_wp2
        obtain ⟨wn, hwn⟩ : ∃ wn, wc.alloc (Obj.cells #[.string ⟨#[108, 111, 119, 101, 114]⟩, .string ⟨#[117, 112, 112, 101, 114]⟩, .string ⟨#[116, 114, 105, 109]⟩] 9) = wn := ⟨_, rfl⟩
        obtain ⟨G, hG⟩ : ∃ G, wc.heap.size = G := ⟨_, rfl⟩
        have HNM : Hid (∀ t : Nat, t < 3 → ∃ nm : ByteArray, OnceF nm ∧ nm.size ≤ 5 ∧ wn.cell? ⟨G, t, none⟩ = some (.string nm)) := Lib.hid fun t ht => by rw [← hwn, ← hG]; exact HNM0.out wc t ht
        have HB6 : Hid (Below w.heap.size w wn) := Lib.hid (by rw [← hwn]; exact HB5.out.trans ((below_one wc _).mono HB5.out.size))
        rw [hwn, hG]
        clear hwn hG HNM0 HB5
        go_loopw [26] (fun i wr => ∃ t : Nat, i = .int .i64 t ∧ t ≤ 3 ∧ Hid (Below wn.heap.size wn wr)) (fun i _ => 3 - (intOf i).toNat)
        case atStart => exact ⟨0, rfl, by omega, Lib.hid (Below.refl _ _)⟩
        case round =>
          obtain ⟨t, rfl, ht, HBR⟩ := hrel
          have HBW : Hid (∀ W, Below wr.heap.size wr W → Below w.heap.size w W ∧ Below wn.heap.size wn W) := Lib.hid fun W hb => ⟨HB6.out.trans ((HBR.out.trans (hb.mono HBR.out.size)).mono HB6.out.size), HBR.out.trans (hb.mono HBR.out.size)⟩
          by_cases hlt : t < 3
          · obtain ⟨nm, ho, hnm5, hcell⟩ := HNM.out t hlt
            have HO := Lib.hid ho
            have HCN : Hid (∀ W, Below wn.heap.size wn W → W.cell? ⟨G, t, none⟩ = some (.string nm)) := Lib.hid fun W hb => (hb.cell (lt_of_cell hcell)).trans hcell
            have q1 : (0 : Int) ≤ t := by omega
            have q2 : (t : Int) < 3 := by omega
            have n0 := HCN.out wr HBR.out
            clear ho hcell HBR
            go_wp2_with fail
            refine (HPM.out nm (by omega) _ (HBW.out _ (Below.refl _ _)).1).mono ?_
            rintro e w4 ⟨yc, mc, dc, rfl, hpa, hma, hda, hb⟩
            have HB8 := Lib.hid hb
            have n1 := HCN.out w4 (HBW.out _ hb).2
            have HPA := Lib.hid hpa
            have HMA := Lib.hid hma
            clear hpa hma hb n0
            have HBK : Hid ((applyP ps ⟨5, tb, emB, emB, nm⟩).2 = 0 → applyP (applyP ps ⟨5, tb, emB, emB, nm⟩).1 ⟨5, tb, emB, emB, nm⟩ = ((applyP ps ⟨5, tb, emB, emB, nm⟩).1, 0) ∧ mc = n) := Lib.hid fun h => by
              obtain ⟨h1, h2⟩ := back_once HO.out h
              exact ⟨h1, by rw [← HMA.out, h2, HN.out]⟩
            have HLA : Hid ((applyP ps ⟨5, tb, emB, emB, nm⟩).1.length ≤ 500 ∧ PrsOk (applyP ps ⟨5, tb, emB, emB, nm⟩).1) := Lib.hid ⟨apply_lenR, apply_prs⟩
            generalize applyP ps ⟨5, tb, emB, emB, nm⟩ = RA at HBK HPA HMA HLA ⊢
            obtain ⟨A, E⟩ := RA
            dsimp only at HBK HPA HMA HLA ⊢
            have hmc5 : mc ≤ 500 := by rw [← HMA.out]; exact HLA.out.1
            have HD : Hid (Calls Tryz.prog 23 #[.slice yc mc dc, .agg #[.int .i64 5, .string tb, .string ⟨#[]⟩, .string ⟨#[]⟩, .string nm]] w4 (ApR (applyP A ⟨5, tb, emB, emB, nm⟩) w4)) := Lib.hid (papply_r A yc mc dc ⟨5, tb, emB, emB, nm⟩ w4 HPA.out HMA.out hda (by omega) HLA.out.2 (sm_ok HSM.out.1 hem hem (by omega)) (HT.out _ (HBW.out _ HB8.out).1))
            generalize applyP A ⟨5, tb, emB, emB, nm⟩ = RB at HD HBK
            clear hda
            go_wp2_with fail
            refine HD.out.mono ?_
            rintro e w5 ⟨yb, mb, db, rfl, hpb, hmb, hdb, hb⟩
            have HB9 := Lib.hid (HB8.out.trans (hb.mono HB8.out.size))
            have HPA2 := Lib.hid (HPA.out.below hb)
            have HPB := Lib.hid hpb
            have HMB := Lib.hid hmb
            clear hpb hmb hb HD HB8 HPA n1 hdb
            go_wp2_with fail
            refine (lsame_any A RB.1 yc yb mc mb dc db _ HPA2.out HPB.out HMA.out HMB.out (by omega)).mono ?_
            rintro e w6 ⟨rfl, hb⟩
            have HB10 := Lib.hid (HBW.out _ (HB9.out.trans (hb.mono HB9.out.size))).2
            clear hb HB9 HPA2 HPB HMA HMB
            by_cases h0 : E = 0
            · subst h0
              obtain ⟨hk1, hk2⟩ := HBK.out rfl
              subst hk1 hk2
              rw [sameB_self]
              clear HBK HLA
              go_wp2
              go_roundw
              case rel => exact ⟨t + 1, by go_num, by omega, HB10⟩
              case measure => simp [intOf]; omega
            · have g1 : (E == 0) = false := by rw [beq_eq_false_iff_ne]; exact h0
              clear HBK HLA h0
              go_wp2
              go_roundw
              case rel => exact ⟨t + 1, by go_num, by omega, HB10⟩
              case measure => simp [intOf]; omega
          · have q2 : ¬ (t : Int) < 3 := by omega
            clear HBR
            have HPV : Hid (∀ W, Below w.heap.size w W → Calls Tryz.prog 23 #[.slice x n c, .agg #[.int .i64 5, .string tb, .string ⟨#[]⟩, .string ⟨#[]⟩, .string ⟨#[114, 101, 118, 101, 114, 115, 101]⟩]] W (ApR (applyP ps ⟨5, tb, emB, emB, mkB revN⟩) W)) := Lib.hid fun W hb => HPM.out (mkB revN) (by decide) W hb
            go_wp2_with fail
            refine (HPV.out _ (HBW.out _ (Below.refl _ _)).1).mono ?_
            rintro e w4 ⟨yc, mc, dc, rfl, hpa, hma, hda, hb⟩
            have HB8 := Lib.hid hb
            have HPA := Lib.hid hpa
            have HMA := Lib.hid hma
            clear hpa hma hb HPV HPM
            have HBK : Hid ((applyP ps ⟨5, tb, emB, emB, mkB revN⟩).2 = 0 → applyP (applyP ps ⟨5, tb, emB, emB, mkB revN⟩).1 ⟨5, tb, emB, emB, mkB revN⟩ = (ps, 0)) := Lib.hid fun h => back_rev h
            have HLA : Hid ((applyP ps ⟨5, tb, emB, emB, mkB revN⟩).1.length ≤ 500 ∧ PrsOk (applyP ps ⟨5, tb, emB, emB, mkB revN⟩).1) := Lib.hid ⟨apply_lenR, apply_prs⟩
            generalize applyP ps ⟨5, tb, emB, emB, mkB revN⟩ = RA at HBK HPA HMA HLA ⊢
            obtain ⟨A, E⟩ := RA
            dsimp only at HBK HPA HMA HLA ⊢
            have hmc5 : mc ≤ 500 := by rw [← HMA.out]; exact HLA.out.1
            have HD : Hid (Calls Tryz.prog 23 #[.slice yc mc dc, .agg #[.int .i64 5, .string tb, .string ⟨#[]⟩, .string ⟨#[]⟩, .string ⟨#[114, 101, 118, 101, 114, 115, 101]⟩]] w4 (ApR (applyP A ⟨5, tb, emB, emB, mkB revN⟩) w4)) := Lib.hid (papply_r A yc mc dc ⟨5, tb, emB, emB, mkB revN⟩ w4 HPA.out HMA.out hda (by omega) HLA.out.2 (sm_ok HSM.out.1 hem hem (by decide)) (HT.out _ (HBW.out _ HB8.out).1))
            have HLB : Hid ((applyP A ⟨5, tb, emB, emB, mkB revN⟩).1.length ≤ 500) := Lib.hid apply_lenR
            generalize applyP A ⟨5, tb, emB, emB, mkB revN⟩ = RB at HD HBK HLB
            clear hda
            go_wp2_with fail
            refine HD.out.mono ?_
            rintro e w5 ⟨yb, mb, db, rfl, hpb, hmb, hdb, hb⟩
            have HB9 := Lib.hid (HB8.out.trans (hb.mono HB8.out.size))
            have HPB := Lib.hid hpb
            have HMB := Lib.hid hmb
            have hmb5 : mb ≤ 500 := by have := HMB.out; have := HLB.out; omega
            clear hpb hmb hb HD HB8 HPA hdb
            go_wp2_with fail
            refine (HLS.out _ RB.1 yb mb db (HBW.out _ HB9.out).1 HPB.out HMB.out hmb5).mono ?_
            rintro e w6 ⟨rfl, hb⟩
            have HB10 := Lib.hid (HBW.out _ (HB9.out.trans (hb.mono HB9.out.size))).1
            clear hb HB9 HPB HMA HMB
            by_cases h0 : E = 0
            · subst h0
              have hk1 := HBK.out rfl
              subst hk1
              rw [sameB_self]
              clear HBK HLA
              go_wp2
              go_ret
              exact ⟨rfl, HB10.out⟩
            · have g1 : (E != 0) = true := by simpa using h0
              clear HBK HLA h0
              go_wp2
              go_ret
              exact ⟨rfl, HB10.out⟩
end Go.Proofs.YticcdighfojjjaaGreatDoor
