/-
  StpAwake.
-/
import Derived.Test.YticcdighfojjjaaGreatDoorQStpProg
import Derived.Test.YticcdighfojjjaaGreatDoorQStpSame
namespace Go.Proofs.YticcdighfojjjaaGreatDoor
open Go.ChangeShapes Go.WideShapes Go.ChangeAt Go.RowKit

def awL : List PairV := [⟨mkB [97], mkB [107], mkB [49]⟩, ⟨mkB [98], mkB [107], mkB [50]⟩]
def awA : StepV := ⟨6, mkB [98], mkB [107], mkB [106], emB⟩
def awB : StepV := ⟨4, mkB [97], emB, mkB [98], emB⟩
def awC : StepV := ⟨5, mkB [98], emB, emB, mkB dblN⟩
theorem awA_is : applyP awL awA = ([⟨mkB [97], mkB [107], mkB [49]⟩, ⟨mkB [98], mkB [106], mkB [50]⟩, ⟨mkB [98], mkB [107], mkB [50]⟩], 0) := by kernel_rfl
theorem awB_is : applyP awL awB = ([], 161) := by kernel_rfl
theorem awC_is : applyP awL awC = ([⟨mkB [97], mkB [107], mkB [49]⟩, ⟨mkB [98], mkB [107], mkB [52]⟩], 0) := by kernel_rfl
theorem aw_trim : callV (mkB trmN) (mkB [32, 97, 32, 98, 32]) = (mkB [97, 32, 98], 0) := by kernel_rfl
theorem aw_upper : (callV (mkB [85, 112, 112, 101, 114]) (mkB [97])).2 = 160 := by kernel_rfl
theorem aw_right : rightS ⟨2, mkB [97], emB, emB, emB⟩ = true := by kernel_rfl
theorem aw_wrong : rightS ⟨2, mkB [97], emB, emB, mkB [120]⟩ = false := by kernel_rfl
/-- What Apply answers, as a slice. -/
theorem papply_sl (ps : List PairV) (x : Option Addr) (n c : Nat) (s : StepV) (w : World) (h : PrsAt w x ps) (hn : ps.length = n) (hc : n ≤ c) (hl : n ≤ 2147483647) (hok : PrsOk ps) (hs : StepOk s) (hT : StdS w) (qs : List PairV) (er : Int) (hr : applyP ps s = (qs, er)) (m : Nat) (hm : qs.length = m) :
    Calls Tryz.prog 23 #[.slice x n c, sV s] w fun e w' => ∃ y d, e = .returned (.tuple #[.slice y m d, .int .i64 er]) ∧ OwnP w w' (.slice y m d) qs ∧ PrsAt w' y qs ∧ m ≤ d := by
  refine (papply_any ps x n c s w h hn hc hl hok hs hT).mono ?_
  rintro e w' ⟨v, rfl, ho⟩
  rw [hr] at ho ⊢
  dsimp only at ho ⊢
  obtain ⟨y, d, rfl, h1, h2⟩ := ho.some_
  rw [hm] at h2 ho ⊢
  exact ⟨y, d, rfl, ho, h1, h2⟩
theorem small_step (k : Int) (a b c d : List UInt8) (h : a.length ≤ 100 ∧ b.length ≤ 100 ∧ c.length ≤ 100 ∧ d.length ≤ 100) : StepOk ⟨k, mkB a, mkB b, mkB c, mkB d⟩ := by
  obtain ⟨h1, h2, h3, h4⟩ := h
  refine ⟨?_, ?_, ?_, ?_⟩
  all_goals
    show (mkB _).size ≤ maxLen
    rw [mkBlen]; unfold maxLen; omega
theorem awL_ok : PrsOk awL := by
  intro p hp
  unfold awL at hp
  simp only [List.mem_cons, List.not_mem_nil, or_false] at hp
  rcases hp with rfl | rfl
  all_goals
    refine ⟨?_, ?_, ?_⟩
    all_goals
      show (mkB _).size ≤ _
      rw [mkBlen]; simp
set_option maxHeartbeats 3200000 in
set_option maxRecDepth 100000 in
theorem lawake_any (w : World) (hT : StdS w) :
    Calls Tryz.prog 10 #[] w fun e w' => e = .returned (.bool true) ∧ Below w.heap.size w w' := by
  obtain ⟨S, hS⟩ : ∃ S, w.heap.size = S := ⟨_, rfl⟩
  obtain ⟨w1, hw1⟩ : ∃ w1, w.alloc (Obj.cells #[.string ⟨#[97]⟩, .string ⟨#[107]⟩, .string ⟨#[49]⟩, .string ⟨#[98]⟩, .string ⟨#[107]⟩, .string ⟨#[50]⟩] 51) = w1 := ⟨_, rfl⟩
  have HB1 : Hid (Below w.heap.size w w1) := Lib.hid (by rw [← hw1]; exact below_one _ _)
  have HL1 : Hid (PrsAt w1 (some ⟨S, 0, none⟩) awL) := Lib.hid (by
    rw [← hw1, ← hS]
    refine PrsAt.of_cells (by simp) fun j u hj => ?_
    rw [Nat.zero_add, cell_of_row _ _ j _ _ _ (heap_alloc_new w _), ← Array.getElem?_toList]
    exact hj)
  have HT : Hid (∀ W, Below w1.heap.size w1 W → StdS W) := Lib.hid fun W hb => hT.below (HB1.out.trans (hb.mono HB1.out.size))
  have HA : Hid (∀ W, Below w1.heap.size w1 W → Calls Tryz.prog 23 #[.slice (some ⟨S, 0, none⟩) 2 2, .agg #[.int .i64 6, .string ⟨#[98]⟩, .string ⟨#[107]⟩, .string ⟨#[106]⟩, .string ⟨#[]⟩]] W fun e w' => ∃ y d, e = .returned (.tuple #[.slice y 3 d, .int .i64 0]) ∧ OwnP W w' (.slice y 3 d) [⟨mkB [97], mkB [107], mkB [49]⟩, ⟨mkB [98], mkB [106], mkB [50]⟩, ⟨mkB [98], mkB [107], mkB [50]⟩] ∧ PrsAt w' y [⟨mkB [97], mkB [107], mkB [49]⟩, ⟨mkB [98], mkB [106], mkB [50]⟩, ⟨mkB [98], mkB [107], mkB [50]⟩] ∧ 3 ≤ d) := Lib.hid fun W hb => papply_sl awL _ 2 2 awA W (HL1.out.below hb) rfl (by omega) (by omega) awL_ok (small_step 6 [98] [107] [106] [] (by simp)) (HT.out W hb) _ _ awA_is 3 rfl
  have HBB : Hid (∀ W, Below w1.heap.size w1 W → Calls Tryz.prog 23 #[.slice (some ⟨S, 0, none⟩) 2 2, .agg #[.int .i64 4, .string ⟨#[97]⟩, .string ⟨#[]⟩, .string ⟨#[98]⟩, .string ⟨#[]⟩]] W fun e w' => ∃ y d, e = .returned (.tuple #[.slice y 0 d, .int .i64 161]) ∧ OwnP W w' (.slice y 0 d) [] ∧ PrsAt w' y [] ∧ 0 ≤ d) := Lib.hid fun W hb => papply_sl awL _ 2 2 awB W (HL1.out.below hb) rfl (by omega) (by omega) awL_ok (small_step 4 [97] [] [98] [] (by simp)) (HT.out W hb) _ _ awB_is 0 rfl
  have HCC : Hid (∀ W, Below w1.heap.size w1 W → Calls Tryz.prog 23 #[.slice (some ⟨S, 0, none⟩) 2 2, .agg #[.int .i64 5, .string ⟨#[98]⟩, .string ⟨#[]⟩, .string ⟨#[]⟩, .string ⟨#[100, 111, 117, 98, 108, 101]⟩]] W fun e w' => ∃ y d, e = .returned (.tuple #[.slice y 2 d, .int .i64 0]) ∧ OwnP W w' (.slice y 2 d) [⟨mkB [97], mkB [107], mkB [49]⟩, ⟨mkB [98], mkB [107], mkB [52]⟩] ∧ PrsAt w' y [⟨mkB [97], mkB [107], mkB [49]⟩, ⟨mkB [98], mkB [107], mkB [52]⟩] ∧ 2 ≤ d) := Lib.hid fun W hb => papply_sl awL _ 2 2 awC W (HL1.out.below hb) rfl (by omega) (by omega) awL_ok (small_step 5 [98] [] [] dblN (by simp [dblN])) (HT.out W hb) _ _ awC_is 2 rfl
  have HTR : Hid (∀ W, Below w1.heap.size w1 W → Calls Tryz.prog 14 #[.string ⟨#[116, 114, 105, 109]⟩, .string ⟨#[32, 97, 32, 98, 32]⟩] W fun e w' => e = .returned (.tuple #[.string ⟨#[97, 32, 98]⟩, .int .i64 0]) ∧ Below W.heap.size W w') := Lib.hid fun W hb => by
    have := pcall_any (mkB trmN) (mkB [32, 97, 32, 98, 32]) W (by rw [mkBlen]; simp [trmN]) (by rw [mkBlen]; simp) (HT.out W hb)
    rw [aw_trim] at this
    exact this
  have HUP : Hid (∀ W, Below w1.heap.size w1 W → Calls Tryz.prog 14 #[.string ⟨#[85, 112, 112, 101, 114]⟩, .string ⟨#[97]⟩] W fun e w' => ∃ s, e = .returned (.tuple #[.string s, .int .i64 160]) ∧ Below W.heap.size W w') := Lib.hid fun W hb => by
    have := pcall_any (mkB [85, 112, 112, 101, 114]) (mkB [97]) W (by rw [mkBlen]; simp) (by rw [mkBlen]; simp) (HT.out W hb)
    rw [aw_upper] at this
    exact this.mono fun e w' h => ⟨_, h.1, h.2⟩
  have HRI : Hid (∀ W, Below w1.heap.size w1 W → Calls Tryz.prog 18 #[.agg #[.int .i64 2, .string ⟨#[97]⟩, .string ⟨#[]⟩, .string ⟨#[]⟩, .string ⟨#[]⟩]] W fun e w' => e = .returned (.bool true) ∧ Below W.heap.size W w') := Lib.hid fun W hb => by
    have := pright_any ⟨2, mkB [97], emB, emB, emB⟩ W (small_step 2 [97] [] [] [] (by simp)) (HT.out W hb)
    rw [aw_right] at this
    exact this
  have HWR : Hid (∀ W, Below w1.heap.size w1 W → Calls Tryz.prog 18 #[.agg #[.int .i64 2, .string ⟨#[97]⟩, .string ⟨#[]⟩, .string ⟨#[]⟩, .string ⟨#[120]⟩]] W fun e w' => e = .returned (.bool false) ∧ Below W.heap.size W w') := Lib.hid fun W hb => by
    have := pright_any ⟨2, mkB [97], emB, emB, mkB [120]⟩ W (small_step 2 [97] [] [] [120] (by simp)) (HT.out W hb)
    rw [aw_wrong] at this
    exact this
  have HW1 := Lib.hid hw1
  have HS1 := Lib.hid hS
  clear hT hw1 hS
  have heq := eqlPr ⟨#[98]⟩ ⟨#[106]⟩ ⟨#[50]⟩ ⟨#[98]⟩ ⟨#[106]⟩ ⟨#[50]⟩
  rw [show eqPr ⟨⟨#[98]⟩, ⟨#[106]⟩, ⟨#[50]⟩⟩ ⟨⟨#[98]⟩, ⟨#[106]⟩, ⟨#[50]⟩⟩ = true from eqPr_iff.2 rfl] at heq
  have hgd := eqlPr_guard
  go_enter Tryz.func10, Tryz.ntmps10
  go_wp2_with fail
  rw [HW1.out, HS1.out]
  refine (HA.out _ (Below.refl _ _)).mono ?_
  rintro e w2 ⟨y, d, rfl, ho, hp, hd⟩
  have HB2 := Lib.hid ho.below
  have HP2 := Lib.hid hp
  have HD2 := Lib.hid hd
  clear ho hp hd HA
  go_wp2_with fail
  refine (HBB.out _ HB2.out).mono ?_
  rintro e w3 ⟨y3, d3, rfl, ho, hp, hd⟩
  have HB3 := Lib.hid (HB2.out.trans (ho.below.mono HB2.out.size))
  have HP3 := Lib.hid (HP2.out.below ho.below)
  clear ho hp hd HBB HB2 HP2
  go_wp2_with fail
  refine (HCC.out _ HB3.out).mono ?_
  rintro e w4 ⟨z, d4, rfl, ho, hp, hd⟩
  have HB4 := Lib.hid (HB3.out.trans (ho.below.mono HB3.out.size))
  have HP4 := Lib.hid (And.intro (HP3.out.below ho.below) hp)
  clear ho hp hd HCC HB3 HP3
  go_wp2_with fail
  refine (HTR.out _ HB4.out).mono ?_
  rintro e w5 ⟨rfl, hb⟩
  have HB5 := Lib.hid (HB4.out.trans (hb.mono HB4.out.size))
  have HP5 := Lib.hid (And.intro (HP4.out.1.below hb) (HP4.out.2.below hb))
  clear hb HTR HB4 HP4
  go_wp2_with fail
  refine (HUP.out _ HB5.out).mono ?_
  rintro e w6 ⟨s6, rfl, hb⟩
  have HB6 := Lib.hid (HB5.out.trans (hb.mono HB5.out.size))
  have HP6 := Lib.hid (And.intro (HP5.out.1.below hb) (HP5.out.2.below hb))
  clear hb HUP HB5 HP5
  go_wp2_with fail
  refine (HRI.out _ HB6.out).mono ?_
  rintro e w7 ⟨rfl, hb⟩
  have HB7 := Lib.hid (HB6.out.trans (hb.mono HB6.out.size))
  have HP7 := Lib.hid (And.intro (HP6.out.1.below hb) (HP6.out.2.below hb))
  clear hb HRI HB6 HP6
  go_wp2_with fail
  refine (HWR.out _ HB7.out).mono ?_
  rintro e w8 ⟨rfl, hb⟩
  have HB8 := Lib.hid (HB7.out.trans (hb.mono HB7.out.size))
  have HP8 := Lib.hid (And.intro (HP7.out.1.below hb) (HP7.out.2.below hb))
  clear hb HWR HB7 HP7
  obtain ⟨b, off, hy, _, c0, c1, c2⟩ := HP8.out.1 1 (by decide)
  obtain ⟨b', off', hz, _, e0, e1, e2⟩ := HP8.out.2 1 (by decide)
  subst hy hz
  have k0 : w8.cell? ⟨b, off + 3, none⟩ = some (.string ⟨#[98]⟩) := c0
  have k1 : w8.cell? ⟨b, off + 3 + 1, none⟩ = some (.string ⟨#[106]⟩) := c1
  have k2 : w8.cell? ⟨b, off + 3 + 2, none⟩ = some (.string ⟨#[50]⟩) := c2
  have k3 : w8.cell? ⟨b', off' + 3 + 2, none⟩ = some (.string ⟨#[52]⟩) := e2
  have k4 : w8.cell? ⟨b, off + 1 * 3, none⟩ = some (.string ⟨#[98]⟩) := c0
  have HBE := Lib.hid (HB1.out.trans (HB8.out.mono HB1.out.size))
  clear c0 c1 c2 e0 e1 e2 HP8 HB8 HB1 HL1 HT
  go_wp2
  go_ret
  exact ⟨rfl, HBE.out⟩
end Go.Proofs.YticcdighfojjjaaGreatDoor
