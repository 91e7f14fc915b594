/-
  StpAlone0.
-/
import Derived.Test.YticcdighfojjjaaGreatDoorQStpAwake
import Derived.Test.YticcdighfojjjaaGreatDoorQStpWeigh2
namespace Go.Proofs.YticcdighfojjjaaGreatDoor
open Go.ChangeShapes Go.WideShapes Go.ChangeAt Go.RowKit

theorem PrsOk.sub {ps qs : List PairV} (h : PrsOk ps) (hs : ∀ p ∈ qs, p ∈ ps) : PrsOk qs := fun p hp => h p (hs p hp)
theorem prs_of_pairs {ps : List PairV} (h : pairsB ps = true) : PrsOk ps := fun p hp => by
  have := okP_iff.1 ((pairsB_iff.1 h).2.1 p hp)
  obtain ⟨h1, h2, h3⟩ := this
  unfold wordA wordB at h1 h2
  simp only [Bool.and_eq_true, decide_eq_true_eq] at h1 h2
  have l1 := data_len p.table
  have l2 := data_len p.key
  exact ⟨by omega, by omega, by omega⟩
theorem apply_len {ps : List PairV} {s : StepV} : (applyP ps s).1.length ≤ 500 := by
  by_cases h : (applyP ps s).2 = 0
  · exact (pairsB_iff.1 (apply_out h)).1
  · rw [apply_err h]; simp
theorem rise_cases {p q : PairV} (h : lessP p q = true) : Op.bytesLess q.table.toList p.table.toList = false ∧ ((p.table.toList == q.table.toList) = false ∨ ((p.table.toList == q.table.toList) = true ∧ Op.bytesLess p.key.toList q.key.toList = true)) := by
  unfold lessP at h
  simp only [Bool.or_eq_true, Bool.and_eq_true] at h
  rcases h with h | ⟨h1, h2⟩
  · have hne : Op.bytesLess q.table.toList p.table.toList = false := by
      cases e : Op.bytesLess q.table.toList p.table.toList with
      | false => rfl
      | true =>
        have := lessT_trans _ _ _ h e
        rw [lessT_irrefl] at this; cases this
    refine ⟨hne, .inl ?_⟩
    rw [beq_eq_false_iff_ne]
    intro e
    unfold ltB at h
    rw [e, lessT_irrefl] at h; cases h
  · have e := eqB_iff.1 h1
    rw [e]
    exact ⟨lessT_irrefl _, .inr ⟨by simp, h2⟩⟩
/-- What Apply answers, with its length named. -/
def ApRes (ps : List PairV) (s : StepV) (W : World) (e : Ending) (w' : World) : Prop := ∃ y m d, e = .returned (.tuple #[.slice y m d, .int .i64 (applyP ps s).2]) ∧ OwnP W w' (.slice y m d) (applyP ps s).1 ∧ PrsAt w' y (applyP ps s).1 ∧ (applyP ps s).1.length = m ∧ m ≤ d ∧ Below W.heap.size W w'
theorem papply_res (ps : List PairV) (x : Option Addr) (n c : Nat) (s : StepV) (w : World) (h : PrsAt w x ps) (hn : ps.length = n) (hc : n ≤ c) (hl : n ≤ 2147483647) (hok : PrsOk ps) (hs : StepOk s) (hT : StdS w) :
    Calls Tryz.prog 23 #[.slice x n c, sV s] w (ApRes ps s w) := by
  refine (papply_any ps x n c s w h hn hc hl hok hs hT).mono ?_
  rintro e w' ⟨v, rfl, ho⟩
  obtain ⟨y, d, rfl, h1, h2⟩ := ho.some_
  exact ⟨y, _, d, rfl, ho, h1, rfl, h2, ho.below⟩
theorem lbut_res (ps : List PairV) (x : Option Addr) (n c : Nat) (s : StepV) (spk : Bool) (w : World) (h : PrsAt w x ps) (hn : ps.length = n) (hl : n ≤ 2147483647) :
    Calls Tryz.prog 28 #[.slice x n c, sV s, .bool spk] w fun e w' => ∃ y m d, e = .returned (.slice y m d) ∧ PrsAt w' y (ownP s spk ps) ∧ (ownP s spk ps).length = m ∧ m ≤ d ∧ Below w.heap.size w w' := by
  refine (lbut_any ps x n c s spk w h hn hl).mono ?_
  rintro e w' ⟨v, rfl, ho⟩
  obtain ⟨y, d, rfl, h1, h2⟩ := ho.some_
  exact ⟨y, _, d, rfl, h1, rfl, h2, ho.below⟩
theorem own_sub {s : StepV} {b : Bool} {ps : List PairV} : ∀ p ∈ ownP s b ps, p ∈ ps := fun _ hp => (List.mem_filter.1 hp).1
theorem own_len {s : StepV} {b : Bool} {ps : List PairV} : (ownP s b ps).length ≤ ps.length := List.length_filter_le _ _
set_option maxHeartbeats 6400000 in
set_option maxRecDepth 100000 in
theorem stepAlone_any (ps : List PairV) (x : Option Addr) (n c : Nat) (s : StepV) (w : World) (h : PrsAt w x ps) (hn : ps.length = n) (hc : n ≤ c) (hl : n ≤ maxLen) (hz : ∀ p ∈ ps, p.table.size ≤ maxLen ∧ p.key.size ≤ maxLen ∧ p.value.size ≤ maxLen) (hs : StepOk s) (hT : StdS w) :
    Calls Tryz.prog 9 #[.slice x n c, sV s] w fun e w' => e = .returned (.bool true) ∧ Below w.heap.size w w' := by
  have HX := Lib.hid h
  have HN := Lib.hid hn
  have HC := Lib.hid hc
  have HS := Lib.hid hs
  have HT := Lib.hid (fun W hb => hT.below (w' := W) hb)
  have HPW : Hid (∀ W, Below w.heap.size w W → Calls Tryz.prog 20 #[.slice x n c] W fun e w' => ∃ N : Nat, e = .returned (.int .i64 (N : Int)) ∧ N ≤ 4294967294 ∧ (N ≤ 2147483647 → n ≤ 2147483647 ∧ PrsOk ps) ∧ Below W.heap.size W w') := Lib.hid fun W hb => pweigh_any ps x n c W (h.below hb) hn hl hz
  have HSW := Lib.hid (fun W => sweigh_any s W hs)
  have HAW : Hid (∀ W, Below w.heap.size w W → Calls Tryz.prog 10 #[] W fun e w' => e = .returned (.bool true) ∧ Below W.heap.size W w') := Lib.hid fun W hb => lawake_any W (hT.below hb)
  have HAP : Hid (n ≤ 2147483647 → PrsOk ps → ∀ W, Below w.heap.size w W → Calls Tryz.prog 23 #[.slice x n c, sV s] W (ApRes ps s W)) := Lib.hid fun h1 h2 W hb => papply_res ps x n c s W (h.below hb) hn hc h1 h2 hs (hT.below hb)
  have HAL := Lib.hid (alone_any ps s)
  have HBU : Hid (n ≤ 2147483647 → ∀ b W, Below w.heap.size w W → Calls Tryz.prog 28 #[.slice x n c, sV s, .bool b] W fun e w' => ∃ y m d, e = .returned (.slice y m d) ∧ PrsAt w' y (ownP s b ps) ∧ (ownP s b ps).length = m ∧ m ≤ d ∧ Below W.heap.size W w') := Lib.hid fun h1 b W hb => lbut_res ps x n c s b W (h.below hb) hn h1
  obtain ⟨w1, hw1⟩ : ∃ w1, w.alloc (Obj.cells #[.int .i64 s.kind, .string s.table, .string s.key, .string s.to, .string s.text] 35) = w1 := ⟨_, rfl⟩
  obtain ⟨S, hS⟩ : ∃ S, w.heap.size = S := ⟨_, rfl⟩
  have HB1 : Hid (Below w.heap.size w w1) := Lib.hid (by rw [← hw1]; exact below_one _ _)
  have HBX : Hid (∀ W, Below w1.heap.size w1 W → W.cell? ⟨S, 0, none⟩ = some (.int .i64 s.kind) ∧ W.cell? ⟨S, 1, none⟩ = some (.string s.table) ∧ W.cell? ⟨S, 2, none⟩ = some (.string s.key) ∧ W.cell? ⟨S, 3, none⟩ = some (.string s.to) ∧ W.cell? ⟨S, 4, none⟩ = some (.string s.text)) := Lib.hid fun W hb => by
    rw [← hS]; rw [← hw1] at hb
    exact box5_cells hb
  have HW1 := Lib.hid hw1
  have HS1 := Lib.hid hS
  clear h hn hc hl hz hs hT hw1 hS
  obtain ⟨kd, tb, ky, to, tx⟩ := s
  unfold sV at HSW HAP HBU ⊢
  dsimp only at HSW HAP HBU HBX HW1 ⊢
  obtain ⟨b0, b1, b2, b3, b4⟩ := HBX.out w1 (Below.refl _ _)
  go_enter Tryz.func9, Tryz.ntmps9
  go_wp2
  rw [HW1.out, HS1.out]
  go_region_held3 (fun W => W.cell? ⟨S, 0, none⟩ = some (.int .i64 kd) ∧ W.cell? ⟨S, 1, none⟩ = some (.string tb) ∧ W.cell? ⟨S, 2, none⟩ = some (.string ky) ∧ W.cell? ⟨S, 3, none⟩ = some (.string to) ∧ W.cell? ⟨S, 4, none⟩ = some (.string tx)) (first | exact ⟨b0, b1, b2, b3, b4⟩ | exact HBX.out _ HB2.out | exact HBX.out _ HB3.out)
    (first
      | (go_at_call 20; (with_reducible refine (HPW.out _ HB1.out.drew).mono ?_); rintro e w2 ⟨N1, rfl, hN1, hok, hb⟩; have HB2 := Lib.hid ((Below.refl _ w1).drew.trans (hb.mono (Nat.le_refl _))); have HOK := Lib.hid hok; clear hok hb)
      | (go_at_call 21; (with_reducible refine (HSW.out _).mono ?_); rintro e w3 ⟨N2, rfl, hN2, hok2, hb⟩; have HB3 := Lib.hid (HB2.out.trans (hb.mono HB2.out.size)); have HOK2 := Lib.hid hok2; clear hok2 hb)
      | (go_at_call 16; (with_reducible refine (addU_any N1 N2 _ (by omega) (by omega)).mono ?_); rintro e w' ⟨rfl, rfl⟩))
  all_goals
    have HB4 : Hid (Below w1.heap.size w1 w3) := Lib.hid HB3.out
    clear HB3 HB2 b0 b1 b2 b3 b4
    by_cases hbig : 2147483647 < addU N1 N2
    · have g0 : (2147483647 : Int) < (addU N1 N2 : Nat) := by omega
      rw [decide_eq_true g0]
      have HE := Lib.hid (HB1.out.trans (HB4.out.mono HB1.out.size))
      go_wp2
      go_ret
      exact ⟨rfl, HE.out⟩
    have g0 : ¬ (2147483647 : Int) < (addU N1 N2 : Nat) := by omega
    rw [decide_eq_false g0]
    obtain ⟨ha1, ha2⟩ := addU_in (by omega : addU N1 N2 ≤ 2147483647)
    obtain ⟨hn31, hok⟩ := HOK.out ha1
    have HPO := Lib.hid hok
    have HSM := Lib.hid (HOK2.out ha2)
    have HAP2 := Lib.hid (HAP.out hn31 hok)
    have HBU2 := Lib.hid (HBU.out hn31)
    have HOL : Hid ((ownP ⟨kd, tb, ky, to, tx⟩ true ps).length ≤ n) := Lib.hid (by rw [← HN.out]; exact own_len)
    generalize addU N1 N2 = N3 at g0 ⊢
    clear HOK HOK2 HAP HBU hok ha1 ha2 hN1 hN2 hbig g0
    have HTW : Hid (∀ W, Below w1.heap.size w1 W → Below w.heap.size w W ∧ StdS W) := Lib.hid fun W hb => ⟨HB1.out.trans (hb.mono HB1.out.size), HT.out W (HB1.out.trans (hb.mono HB1.out.size))⟩
    go_wp2_with fail
    refine (HAW.out _ (HTW.out _ HB4.out).1).mono ?_
    rintro e w4 ⟨rfl, hb⟩
    have HB5 := Lib.hid (HB4.out.trans (hb.mono HB4.out.size))
    obtain ⟨b0, b1, b2, b3, b4⟩ := HBX.out _ HB5.out
    clear hb HB4 HAW HPW HSW
    go_wp2_with fail
    refine (HAP2.out _ (HTW.out _ HB5.out).1).mono ?_
    rintro e w5 ⟨ya, ma, da, rfl, hoa, hpa, hma, hda, hb⟩
    have HB6 := Lib.hid (HB5.out.trans (hb.mono HB5.out.size))
    have HPA := Lib.hid hpa
    have HMA := Lib.hid hma
    have HDA := Lib.hid hda
    clear b0 b1 b2 b3 b4 hoa hpa hma hda hb HB5 HAP2
    obtain ⟨b0, b1, b2, b3, b4⟩ := HBX.out _ HB6.out
    go_wp2_with fail
    refine (HBU2.out true _ (HTW.out _ HB6.out).1).mono ?_
    rintro e w6 ⟨yo, mo, do_, rfl, hpo, hmo, hdo, hb⟩
    have HB7 := Lib.hid (HB6.out.trans (hb.mono HB6.out.size))
    have HPA2 := Lib.hid (HPA.out.below hb)
    have HPO2 := Lib.hid hpo
    have HMO := Lib.hid hmo
    have HDO := Lib.hid hdo
    clear b0 b1 b2 b3 b4 hpo hmo hdo hb HB6 HPA
    obtain ⟨b0, b1, b2, b3, b4⟩ := HBX.out _ HB7.out
    go_wp2_with fail
    refine (papply_res (ownP ⟨kd, tb, ky, to, tx⟩ true ps) yo mo do_ ⟨kd, tb, ky, to, tx⟩ _ HPO2.out HMO.out HDO.out (by have := HOL.out; have := HMO.out; omega) (HPO.out.sub own_sub) HSM.out.ok (HTW.out _ HB7.out).2).mono ?_
    rintro e w7 ⟨yb, mb, db, rfl, hob, hpb, hmb, hdb, hb⟩
    have HB8 := Lib.hid (HB7.out.trans (hb.mono HB7.out.size))
    have HPA3 := Lib.hid (HPA2.out.below hb)
    have HPB := Lib.hid hpb
    have HMB := Lib.hid hmb
    clear b0 b1 b2 b3 b4 hob hpb hmb hdb hb HB7 HPA2 HPO2 HMO HDO
    obtain ⟨b0, b1, b2, b3, b4⟩ := HBX.out _ HB8.out
    have HEA : Hid ((applyP ps ⟨kd, tb, ky, to, tx⟩).2 ≠ 0 → ma = 0) := Lib.hid fun h => by have := HMA.out; rw [apply_err h] at this; exact this.symm
    have HEB : Hid ((applyP (ownP ⟨kd, tb, ky, to, tx⟩ true ps) ⟨kd, tb, ky, to, tx⟩).2 ≠ 0 → mb = 0) := Lib.hid fun h => by have := HMB.out; rw [apply_err h] at this; exact this.symm
    have HLA : Hid ((applyP ps ⟨kd, tb, ky, to, tx⟩).1.length ≤ 500) := Lib.hid apply_len
    have HOA : Hid ((applyP ps ⟨kd, tb, ky, to, tx⟩).2 = 0 → PrsOk (applyP ps ⟨kd, tb, ky, to, tx⟩).1) := Lib.hid fun h => prs_of_pairs (apply_out h)
    have HE := Lib.hid (HTW.out _ HB8.out).1
    generalize applyP (ownP ⟨kd, tb, ky, to, tx⟩ true ps) ⟨kd, tb, ky, to, tx⟩ = RB at HAL HEB HPB HMB ⊢
    generalize hRA : applyP ps ⟨kd, tb, ky, to, tx⟩ = RA at HAL HEA HPA3 HMA HLA HOA ⊢
    obtain ⟨A, E⟩ := RA
    obtain ⟨B, F⟩ := RB
    dsimp only at HAL HEA HEB HPA3 HPB HMA HMB HLA HOA ⊢
    clear hRA
    by_cases h1 : E = 1 ∨ E = 163
    · have hma0 : ma = 0 := HEA.out (by omega)
      subst hma0
      rcases h1 with rfl | rfl
      all_goals
        go_wp2
        go_ret
        exact ⟨rfl, HE.out⟩
    obtain ⟨hFE, hrest⟩ := HAL.out.resolve_left h1
    subst hFE
    have g1 : (F == 1) = false := by rw [beq_eq_false_iff_ne]; omega
    have g2 : (F == 163) = false := by rw [beq_eq_false_iff_ne]; omega
    by_cases h0 : F = 0
    · subst h0
      obtain ⟨r1, r2, r3, r4⟩ := hrest rfl
      have hl5 : ma ≤ 500 := by have := HLA.out; have := HMA.out; omega
      have HR2 := Lib.hid r2
      have HR3 := Lib.hid r3
      have HOK := Lib.hid (HOA.out rfl)
      have HDN : Hid (∀ W, Below w1.heap.size w1 W → PrsAt W ya A → Calls Tryz.prog 23 #[.slice ya ma da, .agg #[.int .i64 2, .string ⟨#[110, 111, 110, 101]⟩, .string ⟨#[110, 111, 110, 101]⟩, .string ⟨#[]⟩, .string ⟨#[]⟩]] W fun e w' => ∃ v, e = .returned (.tuple #[v, .int .i64 0]) ∧ Below W.heap.size W w') := Lib.hid fun W hb hx => by
        have := papply_any A ya ma da dropNone W hx HMA.out HDA.out (by omega) HOK.out (small_step 2 [110, 111, 110, 101] [110, 111, 110, 101] [] [] (by simp)) (HTW.out W hb).2
        rw [r4] at this
        exact this.mono fun e w' ⟨v, h1, h2⟩ => ⟨v, h1, h2.below⟩
      clear hrest h1 HAL HEA HEB HOA HLA g1 g2 r2 r3 r4 HE
      go_wp2_with fail
      refine (lbut_res A ya ma da ⟨kd, tb, ky, to, tx⟩ true _ HPA3.out HMA.out (by omega)).mono ?_
      rintro e w8 ⟨y1, m1, d1, rfl, hp1, hm1, hd1, hb⟩
      have HB9 := Lib.hid (HB8.out.trans (hb.mono HB8.out.size))
      have HPA4 := Lib.hid (HPA3.out.below hb)
      have HPB4 := Lib.hid (HPB.out.below hb)
      have HP1 := Lib.hid hp1
      have HM1 := Lib.hid hm1
      have hm1l : m1 ≤ 500 := by have := (own_len (s := ⟨kd, tb, ky, to, tx⟩) (b := true) (ps := A)); have := HMA.out; omega
      clear b0 b1 b2 b3 b4 hp1 hm1 hd1 hb HB8 HPA3 HPB
      go_wp2_with fail
      refine (lsame_any (ownP ⟨kd, tb, ky, to, tx⟩ true A) B y1 yb m1 mb d1 db _ HP1.out HPB4.out HM1.out HMB.out (by omega)).mono ?_
      rintro e w9 ⟨rfl, hb⟩
      rw [r1, sameB_self]
      have HB10 := Lib.hid (HB9.out.trans (hb.mono HB9.out.size))
      have HPA5 := Lib.hid (HPA4.out.below hb)
      obtain ⟨b0, b1, b2, b3, b4⟩ := HBX.out _ HB10.out
      clear hb HB9 HPA4 HPB4 HP1 HM1 HMB r1 hm1l
      go_wp2
      go_region_held3 (fun W => W.cell? ⟨S, 0, none⟩ = some (.int .i64 kd) ∧ W.cell? ⟨S, 1, none⟩ = some (.string tb) ∧ W.cell? ⟨S, 2, none⟩ = some (.string ky) ∧ W.cell? ⟨S, 3, none⟩ = some (.string to) ∧ W.cell? ⟨S, 4, none⟩ = some (.string tx)) (first | exact ⟨b0, b1, b2, b3, b4⟩ | exact HBX.out _ HB11.out | exact HBX.out _ HB12.out | exact HBX.out _ HB13.out)
        (first
          | (go_at_call 28; (with_reducible refine (lbut_res A ya ma da ⟨kd, tb, ky, to, tx⟩ false _ (HPA5.out.below (below_d w9)) HMA.out (by omega)).mono ?_); rintro e w10 ⟨y2, m2, d2, rfl, hp2, hm2, hd2, hb⟩; have HB11 := Lib.hid (HB10.out.trans (((below_d w9).trans (hb.mono (Nat.le_refl _))).mono HB10.out.size)); have HP2 := Lib.hid (And.intro hp2 (And.intro hm2 (((below_d w9).trans (hb.mono (Nat.le_refl _)))))); clear hp2 hm2 hd2 hb)
          | (go_at_call 28; (with_reducible refine (HBU2.out false _ (HTW.out _ HB11.out).1).mono ?_); rintro e w11 ⟨y3, m3, d3, rfl, hp3, hm3, hd3, hb⟩; have HB12 := Lib.hid (HB11.out.trans (hb.mono HB11.out.size)); have HP3 := Lib.hid (And.intro hp3 (And.intro hm3 (HP2.out.1.below hb))); have HW3 := Lib.hid (HP2.out.2.2.trans (hb.mono HP2.out.2.2.size)); clear hp3 hm3 hd3 hb)
          | (go_at_call 27; (with_reducible refine (lsame_any (ownP ⟨kd, tb, ky, to, tx⟩ false A) (ownP ⟨kd, tb, ky, to, tx⟩ false ps) y2 y3 m2 m3 d2 d3 _ HP3.out.2.2 HP3.out.1 HP2.out.2.1 HP3.out.2.1 (by have := own_len (s := ⟨kd, tb, ky, to, tx⟩) (b := false) (ps := A); have := HMA.out; have := HP2.out.2.1; omega)).mono ?_); rintro e w12 ⟨rfl, hb⟩; rw [HR2.out, sameB_self]; have HB13 := Lib.hid (HB12.out.trans (hb.mono HB12.out.size)); have HW4 := Lib.hid (HW3.out.trans (hb.mono HW3.out.size)); clear hb))
      all_goals
        have HPA6 := Lib.hid (HPA5.out.below HW4.out)
        have HB14 := Lib.hid HB13.out
        clear HB13 HW4 HW3 HB12 HP3 HB11 HP2 HB10 HPA5 b0 b1 b2 b3 b4 HR2
        go_wp2
        go_loopw [13] (fun i wr => ∃ k : Nat, i = .int .i64 ((k : Int) + 1) ∧ k ≤ 500 ∧ (k ≤ ma) ∧ Hid (Below w1.heap.size w1 wr ∧ PrsAt wr ya A)) (fun i _ => ma + 1 - (intOf i).toNat)
        case atStart => exact ⟨0, rfl, by omega, by omega, Lib.hid ⟨HB14.out, HPA6.out⟩⟩
        case round =>
          clear HB14 HPA6
          obtain ⟨k, rfl, hk5, hka, HI⟩ := hrel
          by_cases hlt : k + 1 < ma
          · have hx1 : k + 1 < A.length := by rw [HMA.out]; exact hlt
            have hx0 : k < A.length := by omega
            obtain ⟨b, off, hx, _, c0, c1, c2⟩ := HI.out.2 (k + 1) hx1
            obtain ⟨b', off', hx', _, d0, d1, d2⟩ := HI.out.2 k hx0
            subst hx
            obtain ⟨rfl, rfl⟩ : b = b' ∧ off = off' := by simpa using hx'
            have hrc := rise_cases (List.pairwise_iff_getElem.1 HR3.out k (k + 1) hx0 hx1 (by omega))
            generalize A[k + 1] = Q at c0 c1 c2 hrc
            generalize A[k] = P at d0 d1 d2 hrc
            obtain ⟨qt, qk, qv⟩ := Q
            obtain ⟨pt, pk, pv⟩ := P
            dsimp only at c0 c1 c2 d0 d1 d2 hrc
            have HI2 : Hid (Below w1.heap.size w1 wr.drew ∧ PrsAt wr.drew (some ⟨b, off, none⟩) A) := Lib.hid ⟨HI.out.1.drew, HI.out.2.below (below_d wr)⟩
            have q0 : (0 : Int) ≤ k := by omega
            have q1 : (k : Int) < ma := by omega
            have q2 : (k : Int) + 1 < ma := by omega
            have q3 : (0 : Int) ≤ (k : Int) + 1 := by omega
            have w5 : IntKind.i64.wrap ((k : Int) + 1 - 1) = k := by rw [IntWalk.i64_in _ (by omega)]; omega
            have w6 : IntKind.i64.wrap (k : Int) = k := IntWalk.i64_in _ (by omega)
            have w7 : IntKind.i64.wrap ((k : Int) + 1 + 1) = (k : Int) + 1 + 1 := IntWalk.i64_in _ (by omega)
            obtain ⟨t1, t2⟩ := hrc
            clear hx1 hx0 hx' HI
            rcases t2 with t2 | ⟨t2, t3⟩
            · have t0 : Op.bytesLess pt.toList qt.toList = true := by
                cases h : Op.bytesLess pt.toList qt.toList with
                | true => rfl
                | false => rw [lessT_tri _ _ h t1] at t2; simp at t2
              go_wp2
              go_region
              all_goals
                go_wp2
                go_roundw
                case rel => exact ⟨k + 1, by congr 1, by omega, by omega, HI2⟩
                case measure => simp [intOf]; omega
            · go_wp2
              go_region
              all_goals
                go_wp2
                go_roundw
                case rel => exact ⟨k + 1, by congr 1, by omega, by omega, HI2⟩
                case measure => simp [intOf]; omega
          · have q2 : ¬ (k : Int) + 1 < ma := by omega
            have HBI := Lib.hid HI.out.1
            have HDW := Lib.hid (HDN.out wr HI.out.1 HI.out.2)
            clear HI
            go_wp2_with (go_at_call 23; (with_reducible refine HDW.out.mono ?_); rintro e w13 ⟨v13, rfl, hb⟩; have HBE := Lib.hid (HTW.out _ (HBI.out.trans (hb.mono HBI.out.size))).1; clear hb)
            go_ret
            exact ⟨rfl, HBE.out⟩
    · have hma0 : ma = 0 := HEA.out h0
      have hmb0 : mb = 0 := HEB.out h0
      subst hma0 hmb0
      have g3 : (F != 0) = true := by simpa using h0
      clear hrest h0 h1 HAL HEA HEB
      go_wp2
      go_ret
      exact ⟨rfl, HE.out⟩
end Go.Proofs.YticcdighfojjjaaGreatDoor
