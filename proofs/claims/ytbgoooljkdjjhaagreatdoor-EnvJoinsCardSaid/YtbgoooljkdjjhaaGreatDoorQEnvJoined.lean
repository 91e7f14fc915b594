/-
  EnvJoined.
-/
import Derived.Test.YtbgoooljkdjjhaaGreatDoorQEnvJoinKit
import Derived.Test.YtbgoooljkdjjhaaGreatDoorQTxKit
namespace Go.Proofs.YtbgoooljkdjjhaaGreatDoor
open Go.ChangeShapes Go.WideShapes Go.ChangeAt Go.RowKit

/-- What Parse answers, as a caller sees it. -/
def SeeRes (w : World) (p : List GivV × Int × Int) (e : Ending) (w' : World) : Prop := ∃ y d, e = .returned (.tuple #[.slice y p.1.length d, .int .i64 p.2.1, .int .i64 p.2.2]) ∧ Below w.heap.size w w' ∧ Givs w' y p.1
theorem EnvRes.see {w w' : World} {p : List GivV × Int × Int} {e : Ending} (h : EnvRes w p e w') : SeeRes w p e w' := by
  obtain ⟨v, rfl, ho⟩ := h
  obtain ⟨y, d, rfl, hg⟩ := Givs.of_own ho.own rfl
  exact ⟨y, d, rfl, ho.below, hg⟩
theorem append0 {ops : Array Oper} {rest : List Oper} {o : Oper} {a : Act} {Q : Exit → Act → World → Prop} (hgd : o.guard = none) (s x : Operand)
    (ho : o.op = .call { callee := .builtin .append, args := #[s, x], argTypes := #[33, 33] }) {w : World} {us : List ByteArray} {y : Option Addr} {m c : Nat} (htx : TxAt w y us) (hm : us.length = m) (hs : a.eval s = .slice none 0 0) (hx : a.eval x = .slice y m c)
    (hb : m ≤ 10000000000)
    (h : ∀ z cap w', OwnX w w' (.slice z m cap) us → wpList Tryz.prog ops Q rest (a.put o.dst (.slice z m cap)) w') : wpList Tryz.prog ops Q (o :: rest) a w :=
  appendXs hgd s x ho (OwnX.nil_ w) rfl htx hm hs hx (by omega) fun z cap w' h1 => by
    rw [Nat.zero_add] at h1 ⊢
    exact h z cap w' h1
theorem half_bound {r0 r1 r2 : Int} (h0 : 0 ≤ r0) (h1 : 0 ≤ r1) (h2 : 0 ≤ r2) (h : ¬ 1073741823 < upJ r0 (upJ r1 r2)) : r0 ≤ 1073741823 ∧ r1 ≤ 1073741823 ∧ r2 ≤ 1073741823 := by
  unfold upJ at h
  split at h
  · omega
  · rename_i h3
    split at h <;> omega
set_option maxHeartbeats 6400000 in
set_option maxRecDepth 100000 in
theorem envJoins_any (xk : Option Addr) (ck : Nat) (ls : List KeyV) (x1 : Option Addr) (c1 : Nat) (one : List ByteArray) (x2 : Option Addr) (c2 : Nat) (two : List ByteArray) (w : World)
    (hK : KeysAt w xk ls) (hkn : ls.length ≤ maxLen) (hkz : ∀ l ∈ ls, l.name.size ≤ maxLen ∧ l.dflt.size ≤ maxLen ∧ l.letter.size ≤ maxLen)
    (h1 : TxAt w x1 one) (h1n : one.length ≤ maxLen) (h1z : ∀ p ∈ one, p.size ≤ maxLen) (h2 : TxAt w x2 two) (h2n : two.length ≤ maxLen) (h2z : ∀ p ∈ two, p.size ≤ maxLen) (hT : Tab w) (hU : Units w) (hM : MaxI w) :
    Calls Tryz.prog 6 #[.slice xk ls.length ck, .slice x1 one.length c1, .slice x2 two.length c2] w fun e w' => e = .returned (.bool true) ∧ Below w.heap.size w w' := by
  have HW0 := Lib.hid (keysWeigh_any xk ck ls w hK hkn hkz)
  have HW1 : Hid (∀ W, Below w.heap.size w W → Calls Tryz.prog 20 #[.slice x1 one.length c1] W (WRes (one.length + sumT one) W)) := Lib.hid fun W hb => textsWeigh_any x1 c1 one W (h1.below hb) h1n h1z
  have HW2 : Hid (∀ W, Below w.heap.size w W → Calls Tryz.prog 20 #[.slice x2 two.length c2] W (WRes (two.length + sumT two) W)) := Lib.hid fun W hb => textsWeigh_any x2 c2 two W (h2.below hb) h2n h2z
  have HTT : Hid (∀ W, Below w.heap.size w W → Tab W ∧ Units W ∧ MaxI W) := Lib.hid fun W hb => ⟨hT.below hb, hU.below hb, hM.below hb⟩
  have HK := Lib.hid hK
  have H1 := Lib.hid h1
  have H2 := Lib.hid h2
  obtain ⟨nk, hnk⟩ : ∃ nk, ls.length = nk := ⟨_, rfl⟩
  obtain ⟨n1, hn1⟩ : ∃ n1, one.length = n1 := ⟨_, rfl⟩
  obtain ⟨n2, hn2⟩ : ∃ n2, two.length = n2 := ⟨_, rfl⟩
  have HNK := Lib.hid hnk
  have HN1 := Lib.hid hn1
  have HN2 := Lib.hid hn2
  rw [hnk] at HW0
  rw [hn1] at HW1
  rw [hn2] at HW2
  rw [hnk, hn1, hn2]
  clear hK hkn hkz h1 h1n h1z h2 h2n h2z hT hU hM hnk hn1 hn2
  go_enter Tryz.func6, Tryz.ntmps6
  go_wp2_with fail
  refine HW0.out.mono ?_
  rintro e w1 ⟨r0, rfl, p0, q0, i0, hb1⟩
  have HB1 := Lib.hid hb1
  clear hb1 HW0
  go_wp2_with fail
  refine (HW1.out _ HB1.out).mono ?_
  rintro e w2 ⟨r1, rfl, p1, q1, i1, hb2⟩
  have HB2 := Lib.hid (HB1.out.trans (hb2.mono HB1.out.size))
  clear hb2 HW1 HB1
  go_wp2_with fail
  refine (HW2.out _ HB2.out).mono ?_
  rintro e w3 ⟨r2, rfl, p2, q2, i2, hb3⟩
  have HB3 := Lib.hid (HB2.out.trans (hb3.mono HB2.out.size))
  clear hb3 HW2 HB2
  go_wp2_with fail
  refine (addsUp_any r1 r2 w3 p1 (by omega) p2 (by omega)).mono ?_
  rintro e w4 ⟨rfl, rfl⟩
  have hu := upJ_in p1 p2
  go_wp2_with fail
  refine (addsUp_any r0 (upJ r1 r2) w3 p0 (by omega) hu.1 (by omega)).mono ?_
  rintro e w4 ⟨rfl, rfl⟩
  by_cases hb : 1073741823 < upJ r0 (upJ r1 r2)
  · generalize upJ r0 (upJ r1 r2) = U at hb ⊢
    go_wp2
    go_ret
    exact ⟨rfl, HB3.out⟩
  · have hbd := half_bound p0 p1 p2 hb
    have j0 := i0 (by omega)
    have j1 := i1 (by omega)
    have j2 := i2 (by omega)
    have HKZ : Hid (∀ l ∈ ls, l.name.size ≤ 2147483647 ∧ l.dflt.size ≤ 2147483647 ∧ l.letter.size ≤ 2147483647) := Lib.hid fun l hl => by
      have := sumK_mem hl
      omega
    have H1Z : Hid (∀ p ∈ one, p.size ≤ 2147483647) := Lib.hid fun p hp => by
      have := sumT_mem hp
      omega
    have H2Z : Hid (∀ p ∈ two, p.size ≤ 2147483647) := Lib.hid fun p hp => by
      have := sumT_mem hp
      omega
    have hl0 : nk ≤ 1073741823 := by omega
    have hl1 : n1 ≤ 1073741823 := by omega
    have hl2 : n2 ≤ 1073741823 := by omega
    have HAW : Hid (Calls Tryz.prog 16 #[] w3 fun e w' => e = .returned (.bool true) ∧ Below w3.heap.size w3 w') := Lib.hid (eawake_any w3 (HTT.out _ HB3.out).1 (HTT.out _ HB3.out).2.1 (HTT.out _ HB3.out).2.2)
    have HMA : Hid (∀ W, Below w.heap.size w W → Calls Tryz.prog 21 #[.slice xk nk ck, .bool false] W (MadeRes W)) := Lib.hid fun W hb => by
      have := made_any xk ck ls false W (HK.out.below hb) (by rw [HNK.out]; omega) HKZ.out (HTT.out _ hb).1 (HTT.out _ hb).2.1 (HTT.out _ hb).2.2
      rw [HNK.out] at this
      exact this
    clear hbd j0 j1 j2 i0 i1 i2 p0 p1 p2 q0 q1 q2 hu HKZ
    generalize upJ r0 (upJ r1 r2) = U at hb ⊢
    generalize upJ r1 r2 = U1
    go_wp2_with fail
    refine HAW.out.mono ?_
    rintro e w4 ⟨rfl, hb4⟩
    have HB4 := Lib.hid (HB3.out.trans (hb4.mono HB3.out.size))
    clear hb4 HAW HB3
    go_wp2_with fail
    refine (HMA.out _ HB4.out).mono ?_
    rintro e w5 ⟨S, xs, y, d, rfl, hsi, hnb, hty⟩
    have HB5 := Lib.hid (HB4.out.trans (hsi.below.mono HB4.out.size))
    have HNB : Hid (∀ n ∈ xs.map (·.name), nameB n.data.toList = true) := Lib.hid fun n hn => by
      obtain ⟨k, hk, rfl⟩ := List.mem_map.1 hn
      exact hnb k hk
    have HTY := Lib.hid hty
    have HEP : Hid (∀ W ps m px pc, Below w5.heap.size w5 W → TxAt W px ps → ps.length = m → m ≤ 2147483647 → (∀ p ∈ ps, p.size ≤ 2147483647) → Calls Tryz.prog 23 #[.pointer (some ⟨S, 0, none⟩), .slice px m pc] W (SeeRes W (envP (xs.map (·.name)) ps))) := Lib.hid fun W ps m px pc hb hp hm hl hz => by
      subst hm
      obtain ⟨sx, sc, hsa⟩ := hsi.set
      exact (eparse_any xs S sx sc ps px pc W (hsa.below hb) (by have := hsi.len; omega) hnb hp hl hz (HTT.out _ (HB5.out.trans (hb.mono HB5.out.size))).2.2).mono fun _ _ h => h.see
    obtain ⟨mx, hmx⟩ : ∃ mx, xs.length = mx := ⟨_, rfl⟩
    have HMX : Hid ((xs.map (·.name)).length = mx) := Lib.hid (by rw [List.length_map]; exact hmx)
    have hmx2 : mx ≤ 64 := by rw [← hmx]; exact hsi.len
    rw [hmx]
    generalize xs.map (·.name) = ns at *
    clear hsi hnb hty hmx HMA HB4
    obtain ⟨R1, hR1⟩ : ∃ R1, envP ns one = R1 := ⟨_, rfl⟩
    obtain ⟨R2, hR2⟩ : ∃ R2, envP ns two = R2 := ⟨_, rfl⟩
    obtain ⟨R3, hR3⟩ : ∃ R3, envP ns (one ++ two) = R3 := ⟨_, rfl⟩
    have HR1 := Lib.hid hR1
    have HR2 := Lib.hid hR2
    have HR3 := Lib.hid hR3
    have HP1 : Hid (∀ W, Below w5.heap.size w5 W → Calls Tryz.prog 23 #[.pointer (some ⟨S, 0, none⟩), .slice x1 n1 c1] W (SeeRes W R1)) := Lib.hid fun W hb => by
      have := HEP.out W one n1 x1 c1 hb (H1.out.below (HB5.out.trans (hb.mono HB5.out.size))) HN1.out (by omega) H1Z.out
      rw [HR1.out] at this
      exact this
    have HP2 : Hid (∀ W, Below w5.heap.size w5 W → Calls Tryz.prog 23 #[.pointer (some ⟨S, 0, none⟩), .slice x2 n2 c2] W (SeeRes W R2)) := Lib.hid fun W hb => by
      have := HEP.out W two n2 x2 c2 hb (H2.out.below (HB5.out.trans (hb.mono HB5.out.size))) HN2.out (by omega) H2Z.out
      rw [HR2.out] at this
      exact this
    have HP3 : Hid (∀ W z cap, Below w5.heap.size w5 W → TxAt W z (one ++ two) → Calls Tryz.prog 23 #[.pointer (some ⟨S, 0, none⟩), .slice z (n1 + n2) cap] W (SeeRes W R3)) := Lib.hid fun W z cap hb ht => by
      have := HEP.out W (one ++ two) (n1 + n2) z cap hb ht (by rw [List.length_append, HN1.out, HN2.out]) (by omega) (fun p hp => by
        rcases List.mem_append.1 hp with hp | hp
        · exact H1Z.out p hp
        · exact H2Z.out p hp)
      rw [HR3.out] at this
      exact this
    have HX1 : Hid (∀ W, Below w5.heap.size w5 W → TxAt W x1 one) := Lib.hid fun W hb => H1.out.below (HB5.out.trans (hb.mono HB5.out.size))
    have HX2 : Hid (∀ W, Below w5.heap.size w5 W → TxAt W x2 two) := Lib.hid fun W hb => H2.out.below (HB5.out.trans (hb.mono HB5.out.size))
    obtain ⟨g1, e1, a1⟩ := R1
    obtain ⟨g2, e2, a2⟩ := R2
    obtain ⟨g3, e3, a3⟩ := R3
    clear hR1 hR2 hR3 H1 H2 HK
    go_wp2_with fail
    refine (HP1.out _ (Below.refl _ _)).mono ?_
    rintro e w6 ⟨y1, d1, rfl, hb6, hg1⟩
    have HB6 := Lib.hid hb6
    have HG1 := Lib.hid hg1
    clear hb6 hg1 HP1
    go_wp2_with fail
    refine (HP2.out _ HB6.out).mono ?_
    rintro e w7 ⟨y2, d2, rfl, hb7, hg2⟩
    have HB7 := Lib.hid (HB6.out.trans (hb7.mono HB6.out.size))
    have HG1b := Lib.hid (HG1.out.below hb7)
    have HG2 := Lib.hid hg2
    clear hb7 hg2 HP2 HB6 HG1
    go_wp2_with (at_builtin; first
      | (refine append0 rfl _ _ rfl (HX1.out _ HB7.out) HN1.out rfl rfl (by omega) ?_; intro z1 k1 w8 ho8; have HO8 := Lib.hid ho8; clear ho8)
      | (refine appendXs rfl _ _ rfl HO8.out HN1.out (HX2.out _ (HB7.out.trans (HO8.out.below.mono HB7.out.size))) HN2.out rfl rfl (by omega) ?_; intro z2 k2 w9 ho9; have HO9 := Lib.hid ho9; clear ho9))
    have HB9 := Lib.hid (HB7.out.trans (HO9.out.below.mono HB7.out.size))
    refine (HP3.out _ _ _ HB9.out HO9.out.tx).mono ?_
    rintro e w10 ⟨y3, d3, rfl, hb10, hg3⟩
    have HB10 := Lib.hid (HB9.out.trans (hb10.mono HB9.out.size))
    have HG3 := Lib.hid hg3
    have HG1c := Lib.hid ((HG1b.out.below HO9.out.below).below hb10)
    have HG2c := Lib.hid ((HG2.out.below HO9.out.below).below hb10)
    have HBO := Lib.hid (HO9.out.tx.below hb10)
    clear hb10 hg3 HB9 HO8 HO9 HG1b HG2 HP3 HB7
    by_cases hE1 : e1 = 0
    · subst hE1
      by_cases hE2 : e2 = 0
      · subst hE2
        have hj := join_ok (a := one) (b := two) (by rw [HR1.out]) (by rw [HR2.out])
        rw [HR1.out, HR2.out, HR3.out, HN1.out] at hj
        injection hj with hj1 hj2
        injection hj2 with hj2 hj3
        simp only at hj1
        subst hj2 hj3
        have hlen1 := env_len ns one
        have hlen2 := env_len ns two
        rw [HR1.out, HN1.out] at hlen1
        rw [HR2.out, HN2.out] at hlen2
        simp only at hlen1 hlen2
        obtain ⟨m1, hm1⟩ : ∃ m1, g1.length = m1 := ⟨_, rfl⟩
        obtain ⟨m2, hm2⟩ : ∃ m2, g2.length = m2 := ⟨_, rfl⟩
        have hm3 : g3.length = m1 + m2 := by rw [hj1, List.length_append, List.length_map, hm1, hm2]
        rw [hm1] at hlen1
        rw [hm2] at hlen2
        have HM1 := Lib.hid hm1
        have HM2 := Lib.hid hm2
        have HM3 := Lib.hid hm3
        have HJ := Lib.hid hj1
        have HTOLD : Hid (∀ t (ht : t < g3.length), g3[t].name ∈ ns ∧ ∃ (j : Nat) (hj : j < (one ++ two).length), g3[t].at_ = (j : Int) ∧ (one ++ two)[j] = (mkB (calledL g3[t].name.data.toList) ++ (⟨#[61]⟩ : ByteArray)) ++ g3[t].text) := Lib.hid fun t ht => by
          have := env_told (ns := ns) (ps := one ++ two) (by rw [HR3.out]) (g := g3[t]) (by rw [HR3.out]; exact List.getElem_mem ht)
          exact this
        have HPZ : Hid (∀ p ∈ one ++ two, p.size ≤ 2147483647) := Lib.hid fun p hp => by
          rcases List.mem_append.1 hp with hp | hp
          · exact H1Z.out p hp
          · exact H2Z.out p hp
        have HNAM : Hid (∀ W n, n ∈ ns → Below w10.heap.size w10 W → Calls Tryz.prog 17 #[.string n] W fun e w' => e = .returned (.tuple #[.string (mkB (calledL n.data.toList)), .int .i64 0]) ∧ Below W.heap.size W w') := Lib.hid fun W n hn hb => by
          have h0 := HNB.out n hn
          have hz := name_len h0
          have e : n.data.toList.length = n.size := by simp
          obtain ⟨t1, t2, t3⟩ := HTT.out W (HB5.out.trans ((HB10.out.trans (hb.mono HB10.out.size)).mono HB5.out.size))
          have := ename_any n W (by omega) t1 t3
          unfold nameV at this
          rw [if_pos h0] at this
          exact this
        have hwm : IntKind.i64.wrap ((m1 : Int) + (m2 : Int)) = (m1 : Int) + (m2 : Int) := IntWalk.i64_in _ (by omega)
        have HG1d := Lib.hid (fun W (hb : Below w10.heap.size w10 W) => HG1c.out.below hb)
        have HG2d := Lib.hid (fun W (hb : Below w10.heap.size w10 W) => HG2c.out.below hb)
        have HG3d := Lib.hid (fun W (hb : Below w10.heap.size w10 W) => HG3.out.below hb)
        have HBOd := Lib.hid (fun W (hb : Below w10.heap.size w10 W) => HBO.out.below hb)
        have HTYd := Lib.hid (fun W (hb : Below w10.heap.size w10 W) => HTY.out.below (HB10.out.trans (hb.mono HB10.out.size)))
        simp only [hm1, hm2, hm3]
        clear hj1 HG1c HG2c HG3 HBO HTY HX1 HX2 H1Z H2Z hm1 hm2 hm3
        go_wp2
        go_loopw [20] (fun i wr => ∃ t : Nat, i = .int .i64 t ∧ t ≤ m1 + m2 ∧ Hid (Below w10.heap.size w10 wr)) (fun i _ => m1 + m2 - (intOf i).toNat)
        case atStart => exact ⟨0, rfl, by omega, Lib.hid (Below.refl _ _)⟩
        case round =>
          obtain ⟨t, rfl, ht, HW⟩ := hrel
          by_cases hlt : t < m1 + m2
          · have q1 : (0 : Int) ≤ t := by omega
            have q2 : (t : Int) < (m1 : Int) + (m2 : Int) := by omega
            have ht3 : t < g3.length := by rw [HM3.out]; exact hlt
            obtain ⟨b3, f3, e3, hl3, u0, u1, u2⟩ := (HG3d.out _ HW.out) t ht3
            obtain ⟨hnin, j, hj, hat, hpj⟩ := HTOLD.out t ht3
            have hj2 : j < n1 + n2 := by rw [List.length_append, HN1.out, HN2.out] at hj; exact hj
            obtain ⟨bb, fb, ez, hlb, ub⟩ := (HBOd.out _ HW.out) j hj
            have hsz := HPZ.out _ (List.getElem_mem hj)
            rw [hpj] at ub hsz
            rw [ByteArray.size_append, ByteArray.size_append, show (⟨#[61]⟩ : ByteArray).size = 1 from rfl] at hsz
            clear hpj
            by_cases hta : t < m1
            · have q3 : (t : Int) < m1 := by omega
              have ht1 : t < g1.length := by rw [HM1.out]; exact hta
              have hgg : g1[t] = g3[t] := by
                have : g3[t]? = g1[t]? := by rw [HJ.out, List.getElem?_append_left ht1]
                rw [List.getElem?_eq_getElem ht3, List.getElem?_eq_getElem ht1] at this
                injection this with this
                exact this.symm
              obtain ⟨b1, f1, e1, _, s0, s1, s2⟩ := (HG1d.out _ HW.out) t ht1
              rw [hgg] at s0 s1 s2
              subst e1 e3 ez
              generalize g3[t] = g at *
              obtain ⟨nm, tx, at_⟩ := g
              simp only at *
              subst hat
              have HNC := Lib.hid (HNAM.out (wr.alloc (Obj.cells #[.string nm, .string tx, .int .i64 (j : Int)] 27)) nm hnin (HW.out.trans ((below_one wr _).mono HW.out.size)))
              have HBX := Lib.hid (below_one wr (Obj.cells #[.string nm, .string tx, .int .i64 (j : Int)] 27))
              have zj1 : ¬ 9223372036854775807 < (mkB (calledL nm.data.toList)).size + 1 := by omega
              have zj2 : ¬ 9223372036854775807 < (mkB (calledL nm.data.toList)).size + 1 + tx.size := by omega
              have hnq := gneq_self ⟨nm, tx, (j : Int)⟩
              have hgd := gneq_guard
              simp only at hnq
              have r1 : (0 : Int) ≤ j := by omega
              have r2 : (j : Int) < (n1 : Int) + (n2 : Int) := by omega
              have r3 : ¬ (n1 + n2 ≤ j) := by omega
              have r4 : ¬ ((n1 : Int) + (n2 : Int) ≤ (j : Int)) := by omega
              have r5 : decide ((j : Int) < 0) = false := decide_eq_false (by omega)
              have r6 : decide ((n1 : Int) + (n2 : Int) ≤ (j : Int)) = false := decide_eq_false (by omega)
              clear hnin hj hgg ht1 ht3
              go_wp2_with fail
              refine HNC.out.mono ?_
              rintro e w11 ⟨rfl, hb11⟩
              have hbw := HBX.out.trans (hb11.mono HBX.out.size)
              have HW2 := Lib.hid (HW.out.trans (hbw.mono HW.out.size))
              have v0 := (hbw.cell (p := ⟨b3, f3 + t * 3, none⟩) hl3).trans u0
              have v1 := (hbw.cell (p := ⟨b3, f3 + t * 3 + 1, none⟩) hl3).trans u1
              have v2 := (hbw.cell (p := ⟨b3, f3 + t * 3 + 2, none⟩) hl3).trans u2
              have vb := (hbw.cell (p := ⟨bb, fb + j, none⟩) hlb).trans ub
              have x0 : w11.cell? ⟨wr.heap.size, 0, none⟩ = some (.string nm) := by rw [hb11.cell (p := ⟨wr.heap.size, 0, none⟩) (by simp)]; simp
              have x1' : w11.cell? ⟨wr.heap.size, 1, none⟩ = some (.string tx) := by rw [hb11.cell (p := ⟨wr.heap.size, 1, none⟩) (by simp)]; simp
              have x2' : w11.cell? ⟨wr.heap.size, 2, none⟩ = some (.int .i64 (j : Int)) := by rw [hb11.cell (p := ⟨wr.heap.size, 2, none⟩) (by simp)]; simp
              clear u0 u1 u2 ub s0 s1 s2 hb11 hbw HNC HBX
              go_wp2_with fail
              go_region_held3 (fun W => W.cell? ⟨b3, f3 + t * 3, none⟩ = some (.string nm) ∧ W.cell? ⟨b3, f3 + t * 3 + 1, none⟩ = some (.string tx) ∧ W.cell? ⟨b3, f3 + t * 3 + 2, none⟩ = some (.int .i64 (j : Int)) ∧ W.cell? ⟨bb, fb + j, none⟩ = some (.string ((mkB (calledL nm.data.toList) ++ (⟨#[61]⟩ : ByteArray)) ++ tx)) ∧ W.cell? ⟨wr.heap.size, 0, none⟩ = some (.string nm) ∧ W.cell? ⟨wr.heap.size, 1, none⟩ = some (.string tx) ∧ W.cell? ⟨wr.heap.size, 2, none⟩ = some (.int .i64 (j : Int))) (first | exact ⟨v0, v1, v2, vb, x0, x1', x2'⟩) (first | fail)
              all_goals
                go_wp2
                go_roundw
                case rel => exact ⟨t + 1, by go_num, by omega, Lib.hid (HW2.out.trans ((below_drewN w11 1).mono HW2.out.size))⟩
                case measure => simp [intOf]; omega
            · have q3 : ¬ (t : Int) < m1 := by omega
              obtain ⟨d, hd⟩ : ∃ d, t = m1 + d := ⟨t - m1, by omega⟩
              have ht2 : d < g2.length := by rw [HM2.out]; omega
              have hgg : g3[t] = shG n1 g2[d] := by
                have : g3[t]? = (g2.map (shG n1))[d]? := by rw [HJ.out, List.getElem?_append_right (by rw [HM1.out]; omega), HM1.out, hd, Nat.add_sub_cancel_left]
                rw [List.getElem?_eq_getElem ht3, List.getElem?_map, List.getElem?_eq_getElem ht2] at this
                injection this
              obtain ⟨b2, f2, e2, hl2, s0, s1, s2⟩ := (HG2d.out _ HW.out) d ht2
              subst e2 e3 ez
              generalize g3[t] = g at *
              generalize g2[d] = g' at *
              subst hgg
              obtain ⟨nm, tx, a0⟩ := g'
              unfold shG at *
              simp only at *
              obtain rfl : a0 = (j : Int) - n1 := by omega
              clear hat
              have hj1 : (j : Int) - n1 + n1 = j := by omega
              rw [hj1] at u2
              have hwd : IntKind.i64.wrap ((t : Int) - (m1 : Int)) = (d : Int) := by rw [show (t : Int) - (m1 : Int) = (d : Int) by omega]; exact IntWalk.i64_in _ (by omega)
              have hwj : IntKind.i64.wrap ((j : Int) - n1 + n1) = (j : Int) := by rw [hj1]; exact IntWalk.i64_in _ (by omega)
              have q4 : (0 : Int) ≤ d := by omega
              have q5 : (d : Int) < m2 := by omega
              have HNC := Lib.hid (HNAM.out (wr.alloc (Obj.cells #[.string nm, .string tx, .int .i64 (j : Int)] 27)) nm hnin (HW.out.trans ((below_one wr _).mono HW.out.size)))
              have HBX := Lib.hid (below_one wr (Obj.cells #[.string nm, .string tx, .int .i64 (j : Int)] 27))
              have zj1 : ¬ 9223372036854775807 < (mkB (calledL nm.data.toList)).size + 1 := by omega
              have zj2 : ¬ 9223372036854775807 < (mkB (calledL nm.data.toList)).size + 1 + tx.size := by omega
              have hnq := gneq_self ⟨nm, tx, (j : Int)⟩
              have hgd := gneq_guard
              simp only at hnq
              have r1 : (0 : Int) ≤ j := by omega
              have r2 : (j : Int) < (n1 : Int) + (n2 : Int) := by omega
              have r3 : ¬ (n1 + n2 ≤ j) := by omega
              have r4 : ¬ ((n1 : Int) + (n2 : Int) ≤ (j : Int)) := by omega
              have r5 : decide ((j : Int) < 0) = false := decide_eq_false (by omega)
              have r6 : decide ((n1 : Int) + (n2 : Int) ≤ (j : Int)) = false := decide_eq_false (by omega)
              clear hnin hj ht3 ht2 hd hj1
              go_wp2_with fail
              refine HNC.out.mono ?_
              rintro e w11 ⟨rfl, hb11⟩
              have hbw := HBX.out.trans (hb11.mono HBX.out.size)
              have HW2 := Lib.hid (HW.out.trans (hbw.mono HW.out.size))
              have v0 := (hbw.cell (p := ⟨b3, f3 + t * 3, none⟩) hl3).trans u0
              have v1 := (hbw.cell (p := ⟨b3, f3 + t * 3 + 1, none⟩) hl3).trans u1
              have v2 := (hbw.cell (p := ⟨b3, f3 + t * 3 + 2, none⟩) hl3).trans u2
              have vb := (hbw.cell (p := ⟨bb, fb + j, none⟩) hlb).trans ub
              have x0 : w11.cell? ⟨wr.heap.size, 0, none⟩ = some (.string nm) := by rw [hb11.cell (p := ⟨wr.heap.size, 0, none⟩) (by simp)]; simp
              have x1' : w11.cell? ⟨wr.heap.size, 1, none⟩ = some (.string tx) := by rw [hb11.cell (p := ⟨wr.heap.size, 1, none⟩) (by simp)]; simp
              have x2' : w11.cell? ⟨wr.heap.size, 2, none⟩ = some (.int .i64 (j : Int)) := by rw [hb11.cell (p := ⟨wr.heap.size, 2, none⟩) (by simp)]; simp
              clear u0 u1 u2 ub s0 s1 s2 hb11 hbw HNC HBX
              go_wp2_with fail
              go_region_held3 (fun W => W.cell? ⟨b3, f3 + t * 3, none⟩ = some (.string nm) ∧ W.cell? ⟨b3, f3 + t * 3 + 1, none⟩ = some (.string tx) ∧ W.cell? ⟨b3, f3 + t * 3 + 2, none⟩ = some (.int .i64 (j : Int)) ∧ W.cell? ⟨bb, fb + j, none⟩ = some (.string ((mkB (calledL nm.data.toList) ++ (⟨#[61]⟩ : ByteArray)) ++ tx)) ∧ W.cell? ⟨wr.heap.size, 0, none⟩ = some (.string nm) ∧ W.cell? ⟨wr.heap.size, 1, none⟩ = some (.string tx) ∧ W.cell? ⟨wr.heap.size, 2, none⟩ = some (.int .i64 (j : Int))) (first | exact ⟨v0, v1, v2, vb, x0, x1', x2'⟩) (first | fail)
              all_goals
                go_wp2
                go_roundw
                case rel => exact ⟨t + 1, by go_num, by omega, Lib.hid (HW2.out.trans ((below_drewN w11 1).mono HW2.out.size))⟩
                case measure => simp [intOf]; omega
          · have q2 : ¬ (t : Int) < (m1 : Int) + (m2 : Int) := by omega
            go_wp2
            go_loopw [24] (fun i wr => ∃ t : Nat, i = .int .i64 t ∧ t ≤ mx ∧ Hid (Below w10.heap.size w10 wr)) (fun i _ => mx - (intOf i).toNat)
            case atStart => exact ⟨0, rfl, by omega, HW⟩
            case round =>
              clear hlt ht q2 HW
              obtain ⟨t, rfl, ht, HW⟩ := hrel
              by_cases hlt : t < mx
              · have q1 : (0 : Int) ≤ t := by omega
                have q2 : (t : Int) < mx := by omega
                have htn : t < ns.length := by rw [HMX.out]; exact hlt
                obtain ⟨by_, oy, ey, hly, uy⟩ := (HTYd.out _ HW.out) t htn
                have hnin := List.getElem_mem htn
                generalize ns[t] = nm at uy hnin
                have HNC := Lib.hid (HNAM.out wr nm hnin HW.out)
                have hb0 := HNB.out nm hnin
                have hnz : (mkB (calledL nm.data.toList)).size ≤ 32 := by rw [mkBsz, called_len]; exact name_len hb0
                have hwz : (withX nm).size ≤ 34 := by
                  unfold withX
                  rw [ByteArray.size_append]
                  have : (⟨#[61, 120]⟩ : ByteArray).size = 2 := rfl
                  omega
                have HF1 := Lib.hid (self_form (ns := ns) (fun n hn => name_ok (HNB.out n hn)) hnin (name_ne hb0) (mkB (calledL nm.data.toList)))
                have HF2 := Lib.hid (self_one (ns := ns) HNB.out hnin)
                have HPA : Hid (∀ W t0 g, Below w10.heap.size w10 W → g = W.heap.size → Calls Tryz.prog 23 #[.pointer (some ⟨S, 0, none⟩), .slice (some ⟨g, 0, none⟩) 3 3] (W.alloc (Obj.cells #[.string (mkB (calledL nm.data.toList) ++ (⟨#[61, 120]⟩ : ByteArray)), .string ⟨#[61]⟩, .string (mkB (calledL nm.data.toList))] t0)) fun e w' => (∃ y d, e = .returned (.tuple #[.slice y 0 d, .int .i64 80, .int .i64 1])) ∧ Below W.heap.size W w') := Lib.hid fun W t0 g hb hg => by
                  subst hg
                  have b1 := below_one W (Obj.cells #[.string (mkB (calledL nm.data.toList) ++ (⟨#[61, 120]⟩ : ByteArray)), .string ⟨#[61]⟩, .string (mkB (calledL nm.data.toList))] t0)
                  refine (HEP.out _ [withX nm, ⟨#[61]⟩, mkB (calledL nm.data.toList)] 3 _ 3 (HB10.out.trans ((hb.trans (b1.mono hb.size)).mono HB10.out.size)) (texts_lit W _ _ rfl t0) rfl (by decide) ?_).mono ?_
                  · intro p hp
                    have : (⟨#[61]⟩ : ByteArray).size = 1 := rfl
                    simp only [List.mem_cons, List.not_mem_nil, or_false] at hp
                    rcases hp with rfl | rfl | rfl <;> omega
                  · rintro e w' ⟨y, d, rfl, hb2, _⟩
                    rw [HF1.out]
                    exact ⟨⟨y, d, rfl⟩, b1.trans (hb2.mono b1.size)⟩
                have HPB : Hid (∀ W t0 g, Below w10.heap.size w10 W → g = W.heap.size → Calls Tryz.prog 23 #[.pointer (some ⟨S, 0, none⟩), .slice (some ⟨g, 0, none⟩) 2 2] (W.alloc (Obj.cells #[.string ⟨#[49, 61, 120]⟩, .string (mkB (calledL nm.data.toList) ++ (⟨#[61, 120]⟩ : ByteArray))] t0)) fun e w' => (∃ y d, e = .returned (.tuple #[.slice y 1 d, .int .i64 0, .int .i64 0]) ∧ Givs w' y [⟨nm, ⟨#[120]⟩, 1⟩]) ∧ Below W.heap.size W w') := Lib.hid fun W t0 g hb hg => by
                  subst hg
                  have b1 := below_one W (Obj.cells #[.string ⟨#[49, 61, 120]⟩, .string (mkB (calledL nm.data.toList) ++ (⟨#[61, 120]⟩ : ByteArray))] t0)
                  refine (HEP.out _ [⟨#[49, 61, 120]⟩, withX nm] 2 _ 2 (HB10.out.trans ((hb.trans (b1.mono hb.size)).mono HB10.out.size)) (texts_lit W _ _ rfl t0) rfl (by decide) ?_).mono ?_
                  · intro p hp
                    have : (⟨#[49, 61, 120]⟩ : ByteArray).size = 3 := rfl
                    simp only [List.mem_cons, List.not_mem_nil, or_false] at hp
                    rcases hp with rfl | rfl <;> omega
                  · rintro e w' ⟨y, d, rfl, hb2, hg⟩
                    rw [HF2.out] at hg ⊢
                    exact ⟨⟨y, d, rfl, hg⟩, b1.trans (hb2.mono b1.size)⟩
                have HCY : Hid (∀ W, Below wr.heap.size wr W → W.cell? ⟨by_, oy + t, none⟩ = some (.string nm)) := Lib.hid fun W hb => (hb.cell (p := ⟨by_, oy + t, none⟩) hly).trans uy
                have hnq := gneq_self ⟨nm, ⟨#[120]⟩, 1⟩
                have hgd := gneq_guard
                simp only at hnq
                subst ey
                clear htn hnin hb0 hwz HF1 HF2
                generalize mkB (calledL nm.data.toList) = V at *
                go_wp2_with fail
                refine HNC.out.mono ?_
                rintro e w11 ⟨rfl, hb11⟩
                have HB11 := Lib.hid hb11
                have HW11 := Lib.hid (HW.out.trans (hb11.mono HW.out.size))
                clear hb11 HNC
                go_wp2_with fail
                refine (HPA.out w11 _ _ HW11.out rfl).mono ?_
                rintro e w12 ⟨⟨y4, d4, rfl⟩, hb12⟩
                have HB12 := Lib.hid (HB11.out.trans (hb12.mono HB11.out.size))
                have HW12 := Lib.hid (HW11.out.trans (hb12.mono HW11.out.size))
                clear hb12 HPA HB11 HW11
                go_wp2_with fail
                refine (HPB.out w12 _ _ HW12.out rfl).mono ?_
                rintro e w13 ⟨⟨y5, d5, rfl, hg5⟩, hb13⟩
                have HB13 := Lib.hid (HB12.out.trans (hb13.mono HB12.out.size))
                have HW13 := Lib.hid (HW12.out.trans (hb13.mono HW12.out.size))
                have cy := HCY.out _ HB13.out
                obtain ⟨b5, f5, e5, hl5, g0, g1, g2⟩ := hg5 0 (by simp)
                simp only [List.getElem_cons_zero, Nat.zero_mul, Nat.add_zero] at g0 g1 g2
                subst e5
                clear hb13 HPB hg5 uy HB12 HW12
                go_wp2_with fail
                go_region_held3 (fun W => W.cell? ⟨b5, f5, none⟩ = some (.string nm) ∧ W.cell? ⟨b5, f5 + 1, none⟩ = some (.string ⟨#[120]⟩) ∧ W.cell? ⟨b5, f5 + 2, none⟩ = some (.int .i64 1) ∧ W.cell? ⟨by_, oy + t, none⟩ = some (.string nm)) (first | exact ⟨g0, g1, g2, cy⟩) (first | fail)
                all_goals
                  go_wp2
                  go_roundw
                  case rel => exact ⟨t + 1, by go_num, by omega, Lib.hid (HW13.out.trans ((below_drewN w13 1).mono HW13.out.size))⟩
                  case measure => simp [intOf]; omega
              · have q2 : ¬ (t : Int) < mx := by omega
                go_wp2
                go_ret
                exact ⟨by first | rfl | simp, HB5.out.trans ((HB10.out.trans (HW.out.mono HB10.out.size)).mono HB5.out.size)⟩
      · have hj := join_bad2 (a := one) (b := two) (by rw [HR1.out]) (by rw [HR2.out]; exact hE2)
        have hk := go_bad ns two 0 [] (by have : envGo ns 0 two [] = (g2, e2, a2) := HR2.out; rw [this]; exact hE2)
        rw [show envGo ns 0 two [] = (g2, e2, a2) from HR2.out, HN2.out] at hk
        obtain ⟨_, k2, k3⟩ := hk
        simp only at k2 k3
        rw [HR2.out, HR3.out, HN1.out] at hj
        have hne : (e2 == 0) = false := by simpa using hE2
        injection hj with hj1 hj2
        injection hj2 with hj2 hj3
        subst hj1 hj2
        simp only at hj3
        subst hj3
        have hwr : IntKind.i64.wrap (a2 + (n1 : Int)) = a2 + (n1 : Int) := IntWalk.i64_in _ (by omega)
        clear HG1c HG2c HG3 HBO HEP HTY HX1 HX2 hE2
        go_wp2
        go_ret
        exact ⟨by first | rfl | simp, HB5.out.trans (HB10.out.mono HB5.out.size)⟩
    · have hj := join_bad (a := one) (b := two) (by rw [HR1.out]; exact hE1)
      rw [HR1.out, HR3.out, HN1.out] at hj
      obtain ⟨j1, j2, j3, j4⟩ := hj
      simp only at j1 j2 j3
      have hne : (e1 == 0) = false := by simpa using hE1
      injection j4 with j4 j5
      injection j5 with j5 j6
      subst j1 j4 j5 j6
      clear HG1c HG2c HG3 HBO HEP HTY HX1 HX2 hE1
      go_wp2
      go_ret
      exact ⟨by first | rfl | simp, HB5.out.trans (HB10.out.mono HB5.out.size)⟩
end Go.Proofs.YtbgoooljkdjjhaaGreatDoor
