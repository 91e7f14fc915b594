/-
  EnvParses0.
-/
import Derived.Test.YtbgoooljkdjjhaaGreatDoorQEnvPl
import Derived.Test.YtbgoooljkdjjhaaGreatDoorQEnvLent
import Derived.Test.YtbgoooljkdjjhaaGreatDoorQEnvGiven
import Derived.Test.YtbgoooljkdjjhaaGreatDoorQEnvRefParse
import Derived.Test.YtbgoooljkdjjhaaGreatDoorQEnvMade
import Derived.Test.YtbgoooljkdjjhaaGreatDoorQEnvWeigh
import Derived.Test.YtbgoooljkdjjhaaGreatDoorQEnvAwake
namespace Go.Proofs.YtbgoooljkdjjhaaGreatDoor
open Go.ChangeShapes Go.WideShapes Go.ChangeAt Go.RowKit

theorem full_bound {r0 r1 r2 : Int} (h0 : 0 ≤ r0) (h1 : 0 ≤ r1) (h2 : 0 ≤ r2) (h : ¬ 2147483647 < upJ r0 (upJ r1 r2)) : r0 ≤ 2147483647 ∧ r1 ≤ 2147483647 ∧ r2 ≤ 2147483647 := by
  unfold upJ at h
  split at h
  · omega
  · rename_i h3
    split at h <;> omega
/-- One of the lists that are asked. -/
def AskAt (w6 : World) (G : Nat) (ns : List ByteArray) (F : Nat → List GivV) (k : Nat) : Prop :=
  ∃ (ax : Option Addr) (an ac : Nat) (T : List ByteArray), (∀ W, Below w6.heap.size w6 W → W.cell? ⟨G, k, none⟩ = some (.slice ax an ac) ∧ TxAt W ax T) ∧ T.length = an ∧ an ≤ 2147483647 ∧ (∀ p ∈ T, p.size ≤ 2147483647) ∧ F k = (envP ns T).1
theorem ask_all (w5 : World) (t : TypeId) (ns : List ByteArray) (x1 x2 : Option Addr) (n1 c1 n2 c2 : Nat) (ps os : List ByteArray) (h1 : TxAt w5 x1 ps) (h2 : TxAt w5 x2 os) (e1 : ps.length = n1) (e2 : os.length = n2) (l1 : n1 ≤ 2147483647) (l2 : n2 ≤ 2147483647) (z1 : ∀ p ∈ ps, p.size ≤ 2147483647) (z2 : ∀ p ∈ os, p.size ≤ 2147483647) :
    ∀ k, k < 4 → AskAt (w5.alloc (Obj.cells #[.slice x1 n1 c1, .slice x1 n1 c1, .slice x2 n2 c2, .slice x1 n1 c1] t)) w5.heap.size ns (fun k => if k = 2 then (envP ns os).1 else (envP ns ps).1) k := by
  have hb0 := below_one w5 (Obj.cells #[.slice x1 n1 c1, .slice x1 n1 c1, .slice x2 n2 c2, .slice x1 n1 c1] t)
  have hc : ∀ k W, k < 4 → Below (w5.alloc (Obj.cells #[.slice x1 n1 c1, .slice x1 n1 c1, .slice x2 n2 c2, .slice x1 n1 c1] t)).heap.size (w5.alloc (Obj.cells #[.slice x1 n1 c1, .slice x1 n1 c1, .slice x2 n2 c2, .slice x1 n1 c1] t)) W → W.cell? ⟨w5.heap.size, k, none⟩ = #[.slice x1 n1 c1, .slice x1 n1 c1, .slice x2 n2 c2, .slice x1 n1 c1][k]? := fun k W hk hb => by
    rw [hb.cell (p := ⟨w5.heap.size, k, none⟩) (by simp), World.cell?_alloc_at _ _ _ _ rfl]
  intro k hk
  have h4 : k = 0 ∨ k = 1 ∨ k = 2 ∨ k = 3 := by omega
  rcases h4 with rfl | rfl | rfl | rfl
  · exact ⟨x1, n1, c1, ps, fun W hb => ⟨hc 0 W (by decide) hb, h1.below (hb0.trans (hb.mono hb0.size))⟩, e1, l1, z1, rfl⟩
  · exact ⟨x1, n1, c1, ps, fun W hb => ⟨hc 1 W (by decide) hb, h1.below (hb0.trans (hb.mono hb0.size))⟩, e1, l1, z1, rfl⟩
  · exact ⟨x2, n2, c2, os, fun W hb => ⟨hc 2 W (by decide) hb, h2.below (hb0.trans (hb.mono hb0.size))⟩, e2, l2, z2, rfl⟩
  · exact ⟨x1, n1, c1, ps, fun W hb => ⟨hc 3 W (by decide) hb, h1.below (hb0.trans (hb.mono hb0.size))⟩, e1, l1, z1, rfl⟩
theorem ask_len {w6 : World} {G : Nat} {ns : List ByteArray} {F : Nat → List GivV} {k : Nat} (h : AskAt w6 G ns F k) : (F k).length ≤ 2147483647 := by
  obtain ⟨ax, an, ac, T, _, h2, h3, _, h5⟩ := h
  rw [h5]
  have := env_len ns T
  omega
set_option maxHeartbeats 6400000 in
set_option maxRecDepth 100000 in
theorem envParses_any (xk : Option Addr) (ck : Nat) (ls : List KeyV) (std : Bool) (x1 : Option Addr) (c1 : Nat) (one : List ByteArray) (x2 : Option Addr) (c2 : Nat) (two : List ByteArray) (w : World)
    (hK : KeysAt w xk ls) (hkn : ls.length ≤ maxLen) (hkz : ∀ l ∈ ls, l.name.size ≤ maxLen ∧ l.dflt.size ≤ maxLen ∧ l.letter.size ≤ maxLen)
    (h1 : TxAt w x1 one) (h1n : one.length ≤ maxLen) (h1z : ∀ p ∈ one, p.size ≤ maxLen) (h2 : TxAt w x2 two) (h2n : two.length ≤ maxLen) (h2z : ∀ p ∈ two, p.size ≤ maxLen) (hT : Tab w) (hU : Units w) (hM : MaxI w) :
    Calls Tryz.prog 5 #[.slice xk ls.length ck, .bool std, .slice x1 one.length c1, .slice x2 two.length c2] w fun e w' => e = .returned (.bool true) ∧ Below w.heap.size w w' := by
  have HW0 := Lib.hid (keysWeigh_any xk ck ls w hK hkn hkz)
  have HW1 : Hid (∀ W, Below w.heap.size w W → Calls Tryz.prog 20 #[.slice x1 one.length c1] W (WRes (one.length + sumT one) W)) := Lib.hid fun W hb => textsWeigh_any x1 c1 one W (h1.below hb) h1n h1z
  have HW2 : Hid (∀ W, Below w.heap.size w W → Calls Tryz.prog 20 #[.slice x2 two.length c2] W (WRes (two.length + sumT two) W)) := Lib.hid fun W hb => textsWeigh_any x2 c2 two W (h2.below hb) h2n h2z
  have HTT : Hid (∀ W, Below w.heap.size w W → Tab W ∧ Units W ∧ MaxI W) := Lib.hid fun W hb => ⟨hT.below hb, hU.below hb, hM.below hb⟩
  have HK := Lib.hid hK
  have H1 := Lib.hid h1
  have H2 := Lib.hid h2
  obtain ⟨nk, hnk⟩ : ∃ nk, ls.length = nk := ⟨_, rfl⟩
  obtain ⟨n1, hn1⟩ : ∃ n1, one.length = n1 := ⟨_, rfl⟩
  obtain ⟨n2, hn2⟩ : ∃ n2, two.length = n2 := ⟨_, rfl⟩
  have HNK := Lib.hid hnk
  have HN1 := Lib.hid hn1
  have HN2 := Lib.hid hn2
  rw [hnk] at HW0
  rw [hn1] at HW1
  rw [hn2] at HW2
  rw [hnk, hn1, hn2]
  clear hK hkn hkz h1 h1n h1z h2 h2n h2z hT hU hM hnk hn1 hn2
  go_enter Tryz.func5, Tryz.ntmps5
  go_wp2_with fail
  refine HW0.out.mono ?_
  rintro e w1 ⟨r0, rfl, p0, q0, i0, hb1⟩
  have HB1 := Lib.hid hb1
  clear hb1 HW0
  go_wp2_with fail
  refine (HW1.out _ HB1.out).mono ?_
  rintro e w2 ⟨r1, rfl, p1, q1, i1, hb2⟩
  have HB2 := Lib.hid (HB1.out.trans (hb2.mono HB1.out.size))
  clear hb2 HW1 HB1
  go_wp2_with fail
  refine (HW2.out _ HB2.out).mono ?_
  rintro e w3 ⟨r2, rfl, p2, q2, i2, hb3⟩
  have HB3 := Lib.hid (HB2.out.trans (hb3.mono HB2.out.size))
  clear hb3 HW2 HB2
  go_wp2_with fail
  refine (addsUp_any r1 r2 w3 p1 (by omega) p2 (by omega)).mono ?_
  rintro e w4 ⟨rfl, rfl⟩
  have hu := upJ_in p1 p2
  go_wp2_with fail
  refine (addsUp_any r0 (upJ r1 r2) w3 p0 (by omega) hu.1 (by omega)).mono ?_
  rintro e w4 ⟨rfl, rfl⟩
  by_cases hb : 2147483647 < upJ r0 (upJ r1 r2)
  · generalize upJ r0 (upJ r1 r2) = U at hb ⊢
    go_wp2
    go_ret
    exact ⟨rfl, HB3.out⟩
  · have hbd := full_bound p0 p1 p2 hb
    have j0 := i0 (by omega)
    have j1 := i1 (by omega)
    have j2 := i2 (by omega)
    have HKZ : Hid (∀ l ∈ ls, l.name.size ≤ 2147483647 ∧ l.dflt.size ≤ 2147483647 ∧ l.letter.size ≤ 2147483647) := Lib.hid fun l hl => by
      have := sumK_mem hl
      omega
    have H1Z : Hid (∀ p ∈ one, p.size ≤ 2147483647) := Lib.hid fun p hp => by
      have := sumT_mem hp
      omega
    have H2Z : Hid (∀ p ∈ two, p.size ≤ 2147483647) := Lib.hid fun p hp => by
      have := sumT_mem hp
      omega
    have hl0 : nk ≤ 2147483647 := by omega
    have hl1 : n1 ≤ 2147483647 := by omega
    have hl2 : n2 ≤ 2147483647 := by omega
    have HAW : Hid (∀ W, Below w.heap.size w W → Calls Tryz.prog 16 #[] W fun e w' => e = .returned (.bool true) ∧ Below W.heap.size W w') := Lib.hid fun W hb => eawake_any W (HTT.out _ hb).1 (HTT.out _ hb).2.1 (HTT.out _ hb).2.2
    have HMA : Hid (∀ W, Below w.heap.size w W → Calls Tryz.prog 21 #[.slice xk nk ck, .bool std] W (MadeRes W)) := Lib.hid fun W hb => by
      have := made_any xk ck ls std W (HK.out.below hb) (by rw [HNK.out]; omega) HKZ.out (HTT.out _ hb).1 (HTT.out _ hb).2.1 (HTT.out _ hb).2.2
      rw [HNK.out] at this
      exact this
    clear hbd j0 j1 j2 i0 i1 i2 p0 p1 p2 q0 q1 q2 hu HKZ
    generalize upJ r0 (upJ r1 r2) = U at hb ⊢
    generalize upJ r1 r2 = U1
    go_wp2_with fail
    refine (HAW.out _ HB3.out).mono ?_
    rintro e w4 ⟨rfl, hb4⟩
    have HB4 := Lib.hid (HB3.out.trans (hb4.mono HB3.out.size))
    clear hb4 HB3
    go_wp2_with fail
    refine (HMA.out _ HB4.out).mono ?_
    rintro e w5 ⟨S, xs, y, d, rfl, hsi, hnb, hty⟩
    have HB5 := Lib.hid (HB4.out.trans (hsi.below.mono HB4.out.size))
    have HTY : Hid (∀ W, Below w5.heap.size w5 W → TxAt W y (xs.map (·.name))) := Lib.hid fun W hb => hty.below hb
    have HEP : Hid (∀ W ps m px pc, Below w5.heap.size w5 W → TxAt W px ps → ps.length = m → m ≤ 2147483647 → (∀ p ∈ ps, p.size ≤ 2147483647) → Calls Tryz.prog 23 #[.pointer (some ⟨S, 0, none⟩), .slice px m pc] W (EnvRes W (envP (xs.map (·.name)) ps))) := Lib.hid fun W ps m px pc hb hp hm hl hz => by
      subst hm
      obtain ⟨sx, sc, hsa⟩ := hsi.set
      exact eparse_any xs S sx sc ps px pc W (hsa.below hb) (by have := hsi.len; omega) hnb hp hl hz (HTT.out _ (HB5.out.trans (hb.mono HB5.out.size))).2.2
    have HER : Hid (∀ W ps m px pc, Below w5.heap.size w5 W → TxAt W px ps → ps.length = m → m ≤ 2147483647 → (∀ p ∈ ps, p.size ≤ 2147483647) → Calls Tryz.prog 25 #[.slice y xs.length d, .slice px m pc] W (EnvRes W (envP (xs.map (·.name)) ps))) := Lib.hid fun W ps m px pc hb hp hm hl hz => by
      refine erefParse_any (xs.map (·.name)) y xs.length d ps px m pc W (hty.below hb) (by rw [List.length_map]) (by have := hsi.len; omega) (fun n hn => ?_) hp hm hl hz
      obtain ⟨k, hk, rfl⟩ := List.mem_map.1 hn
      exact hnb k hk
    have HAL : Hid (∀ W, Below w5.heap.size w5 W → Calls Tryz.prog 28 #[.pointer (some ⟨S, 0, none⟩)] W fun e w' => ∃ y d, e = .returned (.slice y xs.length d) ∧ Keys w' y xs ∧ Below W.heap.size W w') := Lib.hid fun W hb => by
      obtain ⟨sx, sc, hsa⟩ := hsi.set
      exact all_there xs S sx sc W (hsa.below hb) (by have := hsi.len; omega)
    obtain ⟨mx, hmx⟩ : ∃ mx, xs.length = mx := ⟨_, rfl⟩
    have HMX := Lib.hid hmx
    have hmx2 : mx ≤ 64 := by rw [← hmx]; exact hsi.len
    rw [hmx] at HER HAL ⊢
    obtain ⟨ns, hns⟩ : ∃ ns, xs.map (·.name) = ns := ⟨_, rfl⟩
    have HNS := Lib.hid hns
    rw [hns] at HTY HEP HER
    obtain ⟨w6, hw6⟩ : ∃ w6, w5.alloc (Obj.cells #[.slice x1 n1 c1, .slice x1 n1 c1, .slice x2 n2 c2, .slice x1 n1 c1] 33) = w6 := ⟨_, rfl⟩
    obtain ⟨G, hG⟩ : ∃ G, w5.heap.size = G := ⟨_, rfl⟩
    obtain ⟨F, hF⟩ : ∃ F : Nat → List GivV, (fun k => if k = 2 then (envP ns two).1 else (envP ns one).1) = F := ⟨_, rfl⟩
    have HAK : Hid (∀ k, k < 4 → AskAt w6 G ns F k) := Lib.hid (by
      rw [← hw6, ← hG, ← hF]
      exact ask_all w5 _ ns x1 x2 n1 c1 n2 c2 one two (H1.out.below HB5.out) (H2.out.below HB5.out) HN1.out HN2.out hl1 hl2 H1Z.out H2Z.out)
    have HB6 : Hid (Below w5.heap.size w5 w6) := Lib.hid (by rw [← hw6]; exact below_one w5 _)
    have H0 : Hid (∃ X C Y D col, PLG w6 w6 F (.slice none 0 0) (.slice none 0 0) 0 X C Y D col) := Lib.hid ⟨fun _ => none, fun _ => 0, fun _ => none, fun _ => 0, fun _ => 0, PLG.start w6 F _ _ _ _ _⟩
    clear hsi hnb hty hmx HMA HB4 hns hF H1 H2 HK H1Z H2Z HN1 HN2 HNK
    go_wp2
    try rw [hw6]
    try rw [hG]
    clear hw6 hG
    go_loopw [13, 14, 15] (fun lu wu i wr => ∃ (k : Nat) (lv wv : Value), lv = lu ∧ wv = wu ∧ i = .int .i64 k ∧ k ≤ 4 ∧ Hid (∃ X C Y D col, PLG w6 wr F lv wv k X C Y D col)) (fun _ _ i _ => 4 - (intOf i).toNat)
    case atStart => exact ⟨0, _, _, rfl, rfl, rfl, by omega, H0⟩
    case round =>
      clear H0
      obtain ⟨k, lv, wv, rfl, rfl, rfl, hk, HKK⟩ := hrel
      obtain ⟨X, C, Y, D, col, hpl⟩ := HKK.out
      have HP := Lib.hid hpl
      clear hpl HKK
      by_cases hlt : k < 4
      · obtain ⟨ax, an, ac, T, hac, hTn, han, hTz, hFk⟩ := HAK.out k hlt
        have HAC := Lib.hid hac
        have HTN := Lib.hid hTn
        have HTZ := Lib.hid hTz
        have HFK := Lib.hid hFk
        have b1 := (hac wr HP.out.below).1
        have q1 : (0 : Int) ≤ k := by omega
        have q2 : (k : Int) < 4 := by omega
        have q3 : (0 : Int) ≤ an := by omega
        have HLE := Lib.hid (elent_any T ax an ac wr (hac wr HP.out.below).2 hTn han)
        have HP6 : Hid (Below w5.heap.size w5 wr) := Lib.hid (HB6.out.trans (HP.out.below.mono HB6.out.size))
        clear hac hTn hTz hFk
        go_wp2_with fail
        refine HLE.out.mono ?_
        rintro e w7 ⟨g, rfl, hg7, hrow, hb7⟩
        have HB7 := Lib.hid hb7
        have HR7 := Lib.hid hrow
        have HG7 := Lib.hid hg7
        have b2 := (HAC.out w7 (HP.out.below.trans (hb7.mono HP.out.below.size))).1
        have hsl : ∀ W : World, (Instr.slice 33 (.slice (some ⟨g, 0, none⟩) (an + 2) (an + 2)) none (some (.int .i64 (an : Int))) none).run Tryz.prog W = .ok (.slice (some ⟨g, 0, none⟩) an (an + 2)) W := fun W => tslice_to g 0 (an + 2) (an + 2) an (by omega) W
        have HCP : Hid (Calls Tryz.prog 23 #[.pointer (some ⟨S, 0, none⟩), .slice (some ⟨g, 0, none⟩) an (an + 2)] w7 (EnvRes w7 (envP ns T))) := Lib.hid (HEP.out w7 T an (some ⟨g, 0, none⟩) (an + 2) (HP6.out.trans (hb7.mono HP6.out.size)) hrow.tx.take HTN.out han HTZ.out)
        clear hb7 hrow hg7 b1 HLE
        go_wp2_with fail
        refine HCP.out.mono ?_
        rintro e w8 ⟨v8, rfl, ho8⟩
        obtain ⟨x8, c8, hv8⟩ := own_form ho8.own
        subst hv8
        have HO8 := Lib.hid ho8
        have HB8 := Lib.hid (HB7.out.trans (ho8.below.mono HB7.out.size))
        have b3 := (HAC.out w8 (HP.out.below.trans (HB8.out.mono HP.out.below.size))).1
        have HCW := Lib.hid (ewhole_any T g ax an ac w8 (HR7.out.below ho8.below) (HAC.out w8 (HP.out.below.trans (HB8.out.mono HP.out.below.size))).2 HTN.out han)
        clear ho8 b2 hsl HCP
        go_wp2_with fail
        refine HCW.out.mono ?_
        rintro e w9 ⟨rfl, hg9⟩
        have HB9 : Hid (Below wr.heap.size wr w9) := Lib.hid (HB8.out.grown hg9 HB8.out.size (fun q hq => by rw [← Option.some.inj hq]; exact HG7.out))
        have HO9 : Hid (w9.ownsRow wr.heap.size 27 3 (.slice x8 (envP ns T).1.length c8) (envP ns T).1.length (gFlat (envP ns T).1)) := Lib.hid (by
          refine own_lessG (HO8.out.own.kept hg9 ?_) HB7.out.size
          refine .inr fun e => ?_
          have := (HO8.out.own.lt g e).1
          have := HR7.out.lt
          omega)
        have b4 := (HAC.out w9 (HP.out.below.trans (HB9.out.mono HP.out.below.size))).1
        have HCR : Hid (Calls Tryz.prog 25 #[.slice y mx d, .slice ax an ac] w9 (EnvRes w9 (envP ns T))) := Lib.hid (HER.out w9 T an ax ac (HP6.out.trans (HB9.out.mono HP6.out.size)) (HAC.out w9 (HP.out.below.trans (HB9.out.mono HP.out.below.size))).2 HTN.out han HTZ.out)
        clear hg9 b3 HCW HO8 HB8 HR7 HG7 HB7
        go_wp2_with fail
        refine HCR.out.mono ?_
        rintro e w10 ⟨v10, rfl, ho10⟩
        obtain ⟨x10, c10, hv10⟩ := own_form ho10.own
        subst hv10
        have HB10 := Lib.hid (HB9.out.trans (ho10.below.mono HB9.out.size))
        have HO10 := Lib.hid (row_below HO9.out ho10.below)
        have HR10 := Lib.hid (own_lessG ho10.own HB9.out.size)
        rw [← HFK.out] at HO10 HR10 ⊢
        obtain ⟨n, hn⟩ : ∃ n, (F k).length = n := ⟨_, rfl⟩
        rw [hn] at HO10 HR10 ⊢
        have HN := Lib.hid hn
        generalize (envP ns T).2.1 = en
        generalize (envP ns T).2.2 = pn
        have HLR := Lib.hid (row_below HP.out.lrow HB10.out)
        have HZ10 : Hid (w6.heap.size ≤ w10.heap.size) := Lib.hid (Nat.le_trans HP.out.below.size HB10.out.size)
        have d1 : (en != en) = false := by simp
        have d2 : (pn != pn) = false := by simp
        clear hn ho10 b4 HCR HO9 HB9 HFK HTZ HTN HAC
        go_wp2_with (at_builtin; first
          | (refine appendLG4 rfl _ _ rfl HLR.out HZ10.out (by omega) rfl rfl rfl ?_; intro g8 cap8 w11 hown8 hgrow8 hlies8; have H8 := Lib.hid (And.intro hown8 (And.intro hgrow8 hlies8)); have HWR := Lib.hid (HP.out.wrow8 HB10.out hgrow8); have HZ8 : Hid (w6.heap.size ≤ w11.heap.size) := Lib.hid (Nat.le_trans HZ10.out (grown_alloc hgrow8).size); clear hown8 hgrow8 hlies8)
          | (refine appendLG4 rfl _ _ rfl HWR.out HZ8.out (by omega) rfl rfl rfl ?_; intro g9 cap9 w12 hown9 hgrow9 hlies9; have H9 := Lib.hid (And.intro hown9 (And.intro hgrow9 hlies9)); clear hown9 hgrow9 hlies9))
        go_roundw
        case rel => exact ⟨k + 1, _, _, rfl, rfl, by go_num, by omega, Lib.hid ⟨_, _, _, _, _, HP.out.push HB10.out (by rw [HN.out]; exact HO10.out) (by rw [HN.out]; exact HR10.out) (by rw [HN.out]; exact H8.out.1) H8.out.2.1 (lies_own (P := fun g => _ = some g ∨ _ ≤ g) H8.out.2.2) (by rw [HN.out]; exact H9.out.1) H9.out.2.1 (lies_own (P := fun g => _ = some g ∨ _ ≤ g) H9.out.2.2)⟩⟩
        case measure => simp [intOf]; omega
      · have hk4 : (k : Int) = 4 := by omega
        rw [hk4]
        obtain rfl : k = 4 := by omega
        clear hk4
        obtain ⟨A, cl, hal, _, _⟩ := row_form HP.out.lrow (by decide)
        obtain ⟨W, cw, haw, _, _⟩ := row_form HP.out.wrow (by decide)
        subst hal haw
        have HPW : Hid (∀ W', Below wr.heap.size wr W' → PLG w6 W' F (.slice (some ⟨A, 0, none⟩) 4 cl) (.slice (some ⟨W, 0, none⟩) 4 cw) 4 X C Y D col) := Lib.hid fun W' hb => HP.out.after hb
        have HFL : Hid (∀ k, k < 4 → (F k).length ≤ 2147483647) := Lib.hid fun k hk => ask_len (HAK.out k hk)
        have HBR := Lib.hid HP.out.below
        clear HP hk hlt HAK HEP HER
        obtain ⟨wx, hwx⟩ : ∃ wx, wx = wr := ⟨_, rfl⟩
        subst hwx
        go_wp2
        go_loopw [24] (fun i wr => ∃ k : Nat, i = .int .i64 k ∧ k ≤ 4 ∧ Hid (Below wx.heap.size wx wr)) (fun i _ => 4 - (intOf i).toNat)
        case atStart => exact ⟨0, rfl, by omega, Lib.hid (Below.refl _ _)⟩
        case round =>
          obtain ⟨k, rfl, hk, HW⟩ := hrel
          by_cases hlt : k < 4
          · have hpl := HPW.out _ HW.out
            have b1 : wr.cell? ⟨A, k, none⟩ = some (.slice (X k) (F k).length (C k)) := (LBG.of_row hpl.lrow).cell hlt
            have b2 : wr.cell? ⟨W, k, none⟩ = some (.slice (Y k) (F k).length (D k)) := (LBG.of_row hpl.wrow).cell hlt
            have q1 : (0 : Int) ≤ k := by omega
            have q2 : (k : Int) < 4 := by omega
            have HX : Hid (Givs wr.drew (X k) (F k)) := Lib.hid ((hpl.givs hlt).1.below (below_drewN wr 1))
            have HY : Hid (Givs wr.drew (Y k) (F k)) := Lib.hid ((hpl.givs hlt).2.below (below_drewN wr 1))
            have HL : Hid ((F k).length ≤ 4611686018427387904) := Lib.hid (by have := HFL.out k hlt; omega)
            have HLL := Lib.hid (LBG.of_row hpl.lrow).lt
            have HWL := Lib.hid (LBG.of_row hpl.wrow).lt
            clear hpl
            go_wp2
            go_region_held3 (fun w' => w'.cell? ⟨A, k, none⟩ = some (.slice (X k) (F k).length (C k)) ∧ w'.cell? ⟨W, k, none⟩ = some (.slice (Y k) (F k).length (D k))) (first | exact ⟨b1, b2⟩ | exact ⟨z1, z2⟩)
              (first | (go_at_call 26; (with_reducible refine (egiven_any (F k) (X k) (Y k) (C k) (D k) _ HX.out HY.out HL.out).mono ?_); rintro e w2 ⟨rfl, hb2⟩; have hbd := (below_drewN wr 1).trans (hb2.mono (Nat.le_refl _)); have HB2 := Lib.hid (HW.out.trans (hbd.mono HW.out.size)); have z1 : w2.cell? ⟨A, k, none⟩ = some (.slice (X k) (F k).length (C k)) := (hbd.cell (p := ⟨A, k, none⟩) HLL.out).trans b1; have z2 : w2.cell? ⟨W, k, none⟩ = some (.slice (Y k) (F k).length (D k)) := (hbd.cell (p := ⟨W, k, none⟩) HWL.out).trans b2; clear hb2 hbd))
            go_wp2
            go_roundw
            case rel => exact ⟨k + 1, by go_num, by omega, HB2⟩
            case measure => simp [intOf]; omega
          · have q2 : ¬ (k : Int) < 4 := by omega
            have HOW := Lib.hid (gowned_any 4 w6.heap.size wr A cl X C F col ((HPW.out _ HW.out).came HFL.out) (by decide) (by decide))
            have HBS : Hid (Below w6.heap.size w6 wr) := Lib.hid (HBR.out.trans (HW.out.mono HBR.out.size))
            clear hk hlt HPW HFL HBR
            go_wp2_with fail
            refine HOW.out.mono ?_
            rintro e w7 ⟨rfl, hb7⟩
            have HB7 : Hid (Below w5.heap.size w5 w7) := Lib.hid (HB6.out.trans ((HBS.out.trans hb7).mono HB6.out.size))
            clear hb7 HOW HBS HW
            go_wp2_with fail
            refine (HAL.out _ HB7.out).mono ?_
            rintro e w8 ⟨ya, da, rfl, hka, hb8⟩
            have HB8 : Hid (Below w5.heap.size w5 w8) := Lib.hid (HB7.out.trans (hb8.mono HB7.out.size))
            have HKA := Lib.hid hka
            clear hka hb8 HB7 HAL
            go_wp2_with fail
            refine (HAW.out _ (HB5.out.trans (HB8.out.mono HB5.out.size))).mono ?_
            rintro e w9 ⟨rfl, hb9⟩
            have HB9 : Hid (Below w5.heap.size w5 w9) := Lib.hid (HB8.out.trans (hb9.mono HB8.out.size))
            have HKB := Lib.hid (HKA.out.below hb9)
            have d1 : ((mx : Int) != (mx : Int)) = false := by simp
            clear hb9 HKA HB8 HAW
            go_wp2
            go_loopw [29] (fun i wr => ∃ k : Nat, i = .int .i64 k ∧ k ≤ mx ∧ Hid (Below w9.heap.size w9 wr)) (fun i _ => mx - (intOf i).toNat)
            case atStart => exact ⟨0, rfl, by omega, Lib.hid (Below.refl _ _)⟩
            case round =>
              obtain ⟨t, rfl, ht, HW⟩ := hrel
              by_cases hlt : t < mx
              · have q1 : (0 : Int) ≤ t := by omega
                have q2' : (t : Int) < mx := by omega
                have htx : t < xs.length := by rw [HMX.out]; exact hlt
                obtain ⟨b', e', hl', c0, hrest⟩ := (HKB.out.below HW.out) t htx
                obtain ⟨b'', o'', e'', hl'', c1'⟩ := (HTY.out _ (HB9.out.trans (HW.out.mono HB9.out.size))) t (by rw [← HNS.out, List.length_map]; exact htx)
                have hnn : ns[t]'(by rw [← HNS.out, List.length_map]; exact htx) = xs[t].name := by
                  have : ns[t]? = some xs[t].name := by rw [← HNS.out, List.getElem?_map, List.getElem?_eq_getElem htx]; rfl
                  rw [List.getElem?_eq_getElem (by rw [← HNS.out, List.length_map]; exact htx)] at this
                  exact Option.some.inj this
                rw [hnn] at c1'
                generalize xs[t].name = nm at c0 c1'
                subst e' e''
                have HD := Lib.hid (HW.out.trans ((below_drewN wr 1).mono HW.out.size))
                clear hrest hnn
                clear htx
                go_wp2
                go_region
                all_goals
                  go_wp2
                  go_roundw
                  case rel => exact ⟨t + 1, by go_num, by omega, HD⟩
                  case measure => simp [intOf]; omega
              · have q2' : ¬ (t : Int) < mx := by omega
                go_wp2
                go_ret
                exact ⟨by first | rfl | simp, HB5.out.trans ((HB9.out.trans (HW.out.mono HB9.out.size)).mono HB5.out.size)⟩
end Go.Proofs.YtbgoooljkdjjhaaGreatDoor
