/-
  StoLasts0.
-/
import Derived.Test.YtlommddabccdeaaGreatDoorQStoAwake
import Derived.Deep.CutRange
import Derived.Deep.CutBlock
import Derived.Deep.LoopGhost
import Derived.WalkSpells
namespace Go.Proofs.YtlommddabccdeaaGreatDoor
open Go.ChangeShapes Go.WideShapes Go.ChangeAt Go.RowKit

set_option maxHeartbeats 6400000 in
set_option maxRecDepth 100000 in
theorem storeLasts_any (bl : Int) (us : List TurnV) (tx : Option Addr) (tn tc : Nat) (de : List Int) (dx : Option Addr) (dn dc : Nat) (ke : List Int) (kx : Option Addr) (kn kc : Nat) (w : World)
  (hbl : In64 bl) (ht : TurnsAt w tx us) (htn : us.length = tn) (htl : tn ≤ maxLen) (htz : ∀ u ∈ us, TurnOk u) (hd : IntsAt w dx de) (hdn : de.length = dn) (hdl : dn ≤ maxLen) (hdz : ∀ n ∈ de, In64 n)
  (hk : IntsAt w kx ke) (hkn : ke.length = kn) (hkl : kn ≤ maxLen) (hkz : ∀ n ∈ ke, In64 n) (hT : StdO w) :
  Calls Tryz.prog 3 #[.int .i64 bl, .slice tx tn tc, .slice dx dn dc, .slice kx kn kc] w fun e w' => e = .returned (.bool true) ∧ Below w.heap.size w w' := by
 have HTX := Lib.hid ht
 have HTN := Lib.hid htn
 have HTZ := Lib.hid htz
 have HDX := Lib.hid hd
 have HDN := Lib.hid hdn
 have HDZ := Lib.hid hdz
 have HKX := Lib.hid hk
 have HKN := Lib.hid hkn
 have HKZ := Lib.hid hkz
 have HT := Lib.hid (fun W hb => hT.below (w' := W) hb)
 unfold maxLen at htl hdl hkl
 have HA0 : Hid (∀ W, Calls Tryz.prog 4 #[.int .i64 (dn : Int), .int .i64 (kn : Int)] W fun e w' => e = .returned (.int .i64 (addS dn kn)) ∧ W = w') := Lib.hid fun W => sadd_any dn kn W (by omega) (by omega) (by omega) (by omega)
 obtain ⟨a0, a1⟩ := addS_in (n := dn) (m := kn) (by omega) (by omega)
 have HAC := Lib.hid (addS_cap (n := dn) (m := kn))
 generalize addS (dn : Int) (kn : Int) = A0 at HA0 a0 a1 HAC
 obtain ⟨A, hA⟩ := Int.eq_ofNat_of_zero_le a0
 subst hA
 have HPB := Lib.hid fun W => spick_any bl 300 W (by decide) (by decide) hbl.1 hbl.2
 obtain ⟨p0, p1⟩ := pickS_in (c := bl) (n := 300) (by decide)
 generalize pickS bl 300 = PB at HPB p0 p1
 obtain ⟨Pn, hP⟩ := Int.eq_ofNat_of_zero_le p0
 subst hP
 clear ht htn htz hd hdn hdz hk hkn hkz hT hbl a0 p0
 obtain ⟨M, hM, hM1, hM2⟩ : ∃ M : Nat, (10 * min (A : Int) 2147483647 = ((10 * M : Nat) : Int)) ∧ M ≤ 2147483647 ∧ (M ≤ 214748364 → A = M) := ⟨min A 2147483647, by omega, by omega, by omega⟩
 have HM := Lib.hid hM
 clear hM
 go_enter Tryz.func3, Tryz.ntmps3
 go_wp2_with (go_at_call 4; (with_reducible refine (HA0.out _).mono ?_); rintro e w' ⟨rfl, rfl⟩)
 go_loopw [9, 10] (fun nn i wr => ∃ N s : Nat, nn = .int .i64 (N : Int) ∧ i = .int .i64 s ∧ s ≤ tn ∧ N ≤ 21474836470 ∧ (N ≤ 2147483647 → 20000 * s ≤ N ∧ 10 * M ≤ N) ∧ Hid (Below w.heap.size w wr)) (fun _ i _ => tn - (intOf i).toNat)
 case atStart => exact ⟨10 * M, 0, by rw [HM.out], rfl, by omega, by omega, fun _ => by omega, Lib.hid (Below.refl _ _)⟩
 case round =>
  obtain ⟨N, s, rfl, rfl, hs, hN, hNs, HB⟩ := hrel
  by_cases hlt : s < tn
  ·by_cases hbig : N ≤ 2147483647
   ·have q1 : (s : Int) < tn := by omega
    have q2 : (N : Int) ≤ 2147483647 := by omega
    have q3 : (0 : Int) ≤ s := by omega
    obtain ⟨n1, n2⟩ := hNs hbig
    have htx : s < us.length := by rw [HTN.out]; exact hlt
    obtain ⟨b, off, hx, z0, z1, z2, c2, z3, z4⟩ := (HTX.out.below HB.out) s htx
    clear z0 z1 z2 z3 z4
    have hz := (HTZ.out _ (List.getElem_mem htx)).2.2
    generalize us[s] = q at c2 hz
    obtain ⟨tt, tk, tv, tg, te⟩ := q
    dsimp only at c2 hz
    unfold maxLen at hz
    obtain ⟨V, hV, hV1⟩ : ∃ V : Nat, (10 * min (tv.size : Int) 2147483647 = (V : Int)) ∧ V ≤ 21474836470 := ⟨10 * min tv.size 2147483647, by omega, by omega⟩
    have HV := Lib.hid hV
    have HA1 : Hid (∀ W, Calls Tryz.prog 4 #[.int .i64 20000, .int .i64 (10 * min (tv.size : Int) 2147483647)] W fun e w' => e = .returned (.int .i64 (addS 20000 V)) ∧ W = w') := Lib.hid fun W => by rw [HV.out]; exact sadd_any 20000 V W (by omega) (by omega) (by omega) (by omega)
    obtain ⟨b0, b1⟩ := addS_in (n := 20000) (m := V) (by omega) (by omega)
    have b2 := addS_cap (n := 20000) (m := V)
    generalize addS 20000 (V : Int) = S1 at HA1 b0 b1 b2
    have b3 : 20000 ≤ S1 := by omega
    clear b2
    obtain ⟨T, hT⟩ := Int.eq_ofNat_of_zero_le b0
    subst hT
    have HA2 : Hid (∀ W, Calls Tryz.prog 4 #[.int .i64 (N : Int), .int .i64 (T : Int)] W fun e w' => e = .returned (.int .i64 (addS N T)) ∧ W = w') := Lib.hid fun W => sadd_any N T W (by omega) (by omega) (by omega) (by omega)
    obtain ⟨d0, d1⟩ := addS_in (n := N) (m := T) (by omega) (by omega)
    have d2 := addS_cap (n := N) (m := T)
    generalize addS (N : Int) (T : Int) = S2 at HA2 d0 d1 d2
    obtain ⟨R, hR⟩ := Int.eq_ofNat_of_zero_le d0
    subst hR
    have HR : R ≤ 2147483648 ∧ (R ≤ 2147483647 → 20000 * (s + 1) ≤ R ∧ 10 * M ≤ R) := ⟨by omega, fun h => by omega⟩
    clear hV d2 d0 d1 b0 b1 b3 htx
    subst hx
    go_wp2_with (first
     | (go_at_call 4; (with_reducible refine (HA1.out _).mono ?_); rintro e w' ⟨rfl, rfl⟩)
     | (go_at_call 4; (with_reducible refine (HA2.out _).mono ?_); rintro e w' ⟨rfl, rfl⟩))
    go_roundw
    case rel => exact ⟨R, s + 1, rfl, by go_num, by omega, by omega, HR.2, HB⟩
    case measure => simp [intOf]; omega
   ·have q1 : (s : Int) < tn := by omega
    have q2 : ¬ (N : Int) ≤ 2147483647 := by omega
    have q3 : (2147483647 : Int) < N := by omega
    go_wp2
    go_ret
    exact ⟨rfl, HB.out⟩
  ·have q1 : ¬ (s : Int) < tn := by omega
   have hst : s = tn := by omega
   subst hst
   by_cases hbig : N ≤ 2147483647
   ·have q3 : ¬ (2147483647 : Int) < N := by omega
    obtain ⟨n1, n2⟩ := hNs hbig
    have hA1 : A ≤ 214748364 := by have := hM2 (by omega); omega
    have HNW : Hid (∀ W, Calls Tryz.prog 6 #[.int .i64 (8 + (Pn : Int))] W fun e w' => ∃ D : DskP, e = .returned (.tuple #[.pointer (some ⟨D.p, 0, none⟩), .int .i64 0]) ∧ DskAt w' D (DskV.new (8 + Pn)) ∧ Below W.heap.size W w' ∧ (∀ k ∈ D.F, W.heap.size ≤ k)) := Lib.hid fun W => by
     rw [show (8 : Int) + (Pn : Int) = ((8 + Pn : Nat) : Int) by omega]; exact dnew_any W (8 + Pn) (by omega) (by omega)
    have HSN : Hid (Settled (DskV.new (8 + Pn))) := Lib.hid ⟨DskOk.new (by omega) (by omega), rfl, rfl⟩
    have HTX2 : Hid (s ≤ 107374 ∧ dn + kn ≤ 214748364) := Lib.hid ⟨by omega, by have := HAC.out; omega⟩
    have HAW : Hid (Calls Tryz.prog 5 #[] wr fun e w' => e = .returned (.bool true) ∧ Below wr.heap.size wr w') := Lib.hid (sawake_any wr (HT.out _ HB.out))
    clear hs hN hNs hbig n1 n2 HAC hM2 hM1 HM hA1 a1 htl hdl hkl hlt
    go_wp2_with (go_at_call 5; (with_reducible refine HAW.out.mono ?_); rintro e w2 ⟨rfl, hb2⟩; have HB2 := Lib.hid (HB.out.trans (hb2.mono HB.out.size)); clear hb2)
    clear HAW
    go_wp2_with (first
     | (go_at_call 7; (with_reducible refine (HPB.out _).mono ?_); rintro e w' ⟨rfl, rfl⟩)
     | (go_at_call 6; (with_reducible refine (HNW.out _).mono ?_); rintro e w3 ⟨D0, rfl, hd3, hb3, hf3⟩; have HD3 := Lib.hid (And.intro hd3 (And.intro hb3 hf3)); clear hd3 hb3 hf3))
    have HFM := Lib.hid (sformat_any w3 D0 _ HD3.out.1 HSN.out rfl)
    clear HNW HPB
    go_wp2_with (go_at_call 8; (with_reducible refine HFM.out.mono ?_); rintro e w4 ⟨S0, FS0, X0, d0, v0, rfl, k1, k2, k3, k4, k5, k6, k7, k8⟩; have HF4 := Lib.hid (And.intro k1 (And.intro k2 (And.intro k3 (And.intro k4 (And.intro k5 (And.intro k6 k7)))))); clear k1 k2 k3 k4 k5 k6 k7 k8)
    have HL0 : Hid (∃ D d FS X, LsAt w w4 D0.p S0 none [] none [] [] false 0 D d FS X) := Lib.hid (by
     obtain ⟨k1, k2, k3, k4, k5, k6, k7⟩ := HF4.out
     obtain ⟨h1, h2, h3⟩ := HD3.out
     exact ⟨_, _, _, _, LsAt.start (fun k hk => Nat.le_trans HB2.out.size (h3 k hk)) (HB2.out.trans (h2.mono HB2.out.size)) k6 k7 k1 k5 k2 k3 k4⟩)
    obtain ⟨P, hP⟩ : ∃ P, D0.p = P := ⟨_, rfl⟩
    rw [hP] at HL0 ⊢
    clear HF4 HD3 HFM HSN HB2 HB hP
    go_loopg [14, 16, 17, 18, 19, 20] s (fun g st nw nx di op i wr => ∃ (S t dd : Nat) (b : Bool) (an ac bn bc : Nat) (ax bx : Option Addr) (now next : List PairV), st = .pointer (some ⟨S, 0, none⟩) ∧ nw = .slice ax an ac ∧ nx = .slice bx bn bc ∧ di = .int .i64 dd ∧ op = .bool b ∧ i = .int .i64 t ∧ t + g = s ∧ dd ≤ dn ∧ Hid (now.length = an ∧ an ≤ ac ∧ next.length = bn ∧ bn ≤ bc) ∧ Hid (∃ D d FS X, LsAt w wr P S ax now bx next next b t D d FS X))
    case atStart => exact ⟨S0, 0, 0, false, 0, 0, 0, 0, none, none, [], [], rfl, rfl, rfl, rfl, rfl, rfl, by omega, by omega, Lib.hid ⟨rfl, Nat.le_refl _, rfl, Nat.le_refl _⟩, HL0⟩
    case round =>
     clear HL0
     obtain ⟨S, t, dd, b, an, ac, bn, bc, ax, bx, now, next, rfl, rfl, rfl, rfl, rfl, rfl, htg, hdd, HLN, HL⟩ := hrel
     obtain ⟨hs9, hdn9⟩ := HTX2.out
     by_cases hlt : t < s
     ·have q0 : (0 : Int) ≤ t := by omega
      have q1 : (t : Int) < s := by omega
      go_upto_if 101 with fail
      go_cut [19] from 94 to 240 (fun o wx => o = .bool true ∧ Hid (∃ D d FS X, LsAt w wx P S ax now bx next next true t D d FS X))
      case first =>
       as_aux_lemma =>
        cases b
        ·obtain ⟨D, d, FS, X, h⟩ := HL.out
         have HBG := Lib.hid (begin_any wr S D d FS X h.ok h.opn)
         have HL1 := Lib.hid h
         clear h HL
         go_wp2_with (go_at_call 9; (with_reducible refine HBG.out.mono ?_); rintro e w5 ⟨rfl, hs⟩; have HS := Lib.hid hs; clear hs)
         have HR : Hid (∃ D d FS X, LsAt w w5 P S ax now bx next next true t D d FS X) := Lib.hid (by
          have h := HL1.out
          obtain ⟨FS', h2⟩ := h.sto (xs' := next) HS.out rfl rfl rfl rfl (fun _ => by show X.ps = next; rw [h.ps, h.clo rfl]) nofun h.rx h.of.2
          exact ⟨_, _, _, _, h2⟩)
         go_meet
         exact ⟨rfl, HR⟩
        ·go_wp2
         go_meet
         exact ⟨rfl, HL⟩
      case rest =>
       clear HL
       obtain ⟨rfl, HL⟩ := hcut
       have htx : t < us.length := by rw [HTN.out]; exact hlt
       have HB : Hid (Below w.heap.size w wc) := Lib.hid (by obtain ⟨D, d, FS, X, h⟩ := HL.out; exact h.frm.bel)
       have HN60 : Hid (next.length ≤ 60 ∧ now.length ≤ 60) := Lib.hid (by obtain ⟨D, d, FS, X, h⟩ := HL.out; exact ⟨of60_len h.rx.1 h.of.2, of60_len h.rise h.of.1⟩)
       obtain ⟨tb, off, hx, z0, c0, c1, c2, c3, c4⟩ := (HTX.out.below HB.out) t htx
       obtain ⟨t1, t2, hz⟩ := (HTZ.out _ (List.getElem_mem htx))
       generalize us[t] = q at c0 c1 c2 c3 c4 t1 t2 hz
       obtain ⟨tt, tk, tv, tg, te⟩ := q
       dsimp only at c0 c1 c2 c3 c4 t1 t2 hz
       clear htx z0 HB
       subst hx
       go_upto_if 112 with fail
       go_cut [21] from 94 to 240 (fun gv wx => ∃ (G : Nat) (v : ByteArray), gv = .pointer (some ⟨G, 0, none⟩) ∧ Hid (v.size ≤ 200 ∧ wx.heap[G]? = some (.cells #[.int .i64 tt, .int .i64 tk, .string v, .bool tg, .bool te] 26 (0, 0)) ∧ ∃ D d FS X, LsAt w wx P S ax now bx next next true t D d FS X ∧ G ∉ FS ++ D.F))
       case first =>
        as_aux_lemma =>
         have HE : ∀ v : ByteArray, v.size ≤ 200 → Hid (v.size ≤ 200 ∧ (wc.alloc (.cells #[.int .i64 tt, .int .i64 tk, .string v, .bool tg, .bool te] 26)).heap[wc.heap.size]? = some (.cells #[.int .i64 tt, .int .i64 tk, .string v, .bool tg, .bool te] 26 (0, 0)) ∧ ∃ D d FS X, LsAt w (wc.alloc (.cells #[.int .i64 tt, .int .i64 tk, .string v, .bool tg, .bool te] 26)) P S ax now bx next next true t D d FS X ∧ wc.heap.size ∉ FS ++ D.F) := fun v hv => Lib.hid ⟨hv, heap_alloc_new wc _, by
          obtain ⟨D, d, FS, X, h⟩ := HL.out
          exact ⟨D, d, FS, X, h.after ((Below.refl _ wc).alloc (Nat.le_refl _) _), fun hm => absurd (h.ok.lt _ hm) (Nat.lt_irrefl _)⟩⟩
         have HE2 := Lib.hid HE
         clear HE HL
         by_cases hsz : tv.size ≤ 200
         ·have g1 : ¬ (200 : Int) < tv.size := by omega
          go_wp2
          go_meet
          exact ⟨_, _, rfl, HE2.out _ hsz⟩
         ·have g1 : (200 : Int) < tv.size := by omega
          go_wp2
          go_meet
          exact ⟨_, _, rfl, HE2.out _ (by rw [ByteArray.size_extract]; omega)⟩
       case rest =>
        clear HL c0 c1 c2 c3 c4 hz
        obtain ⟨G, v, rfl, HG⟩ := hcut
        have HWD : Hid (∀ W, Calls Tryz.prog 10 #[.agg #[.int .i64 tt, .int .i64 tk, .string v, .bool tg, .bool te]] W fun e w' => e = .returned (.tuple #[.string (tabOf ⟨tt, tk, v, tg, te⟩), .string (keyOf ⟨tt, tk, v, tg, te⟩)]) ∧ Below W.heap.size W w') := Lib.hid fun W => words_any ⟨tt, tk, v, tg, te⟩ W t1.1 t1.2 t2.1 t2.2
        have HBH : Hid (∀ W (y : Option Addr) (n c : Nat), PrsAt W y next → next.length = n → n ≤ c → n ≤ 2147483647 → Calls Tryz.prog 13 #[.slice y n c, .agg #[.int .i64 tt, .int .i64 tk, .string v, .bool tg, .bool te]] W fun e w' => ∃ v', e = .returned v' ∧ OwnP W w' v' (behindL next (tabOf ⟨tt, tk, v, tg, te⟩) (keyOf ⟨tt, tk, v, tg, te⟩) (if tg then none else some v))) := Lib.hid fun W y n c h1 h2 h3 h4 => behind_any next y n c ⟨tt, tk, v, tg, te⟩ W h1 h2 h3 h4 t1.1 t1.2 t2.1 t2.2
        have HOB : Hid (∀ u : Bool, v.size ≤ 200 → Rise next → Of60 next → (∀ p ∈ next, okP p = true) → (Rise (behindL next (tabOf ⟨tt, tk, v, tg, te⟩) (keyOf ⟨tt, tk, v, tg, te⟩) (if u then none else some v)) ∧ ∀ p ∈ behindL next (tabOf ⟨tt, tk, v, tg, te⟩) (keyOf ⟨tt, tk, v, tg, te⟩) (if u then none else some v), okP p = true) ∧ Of60 (behindL next (tabOf ⟨tt, tk, v, tg, te⟩) (keyOf ⟨tt, tk, v, tg, te⟩) (if u then none else some v))) := Lib.hid fun u hv h1 h2 h3 => ⟨⟨rise_behind h1 _ _ _, ok_behind h1 h3 (fun x e => turn_ok ⟨tt, tk, v, tg, te⟩ (by
         cases u with
         | true => have e2 : (none : Option ByteArray) = some x := e; cases e2
         | false => have e2 : some v = some x := e; injection e2 with e3; rw [← e3]; exact hv))⟩, of60_behind h1 h2 ⟨tt, tk, v, tg, te⟩ _⟩
        have HOE : Hid (okP ⟨tabOf ⟨tt, tk, v, tg, te⟩, keyOf ⟨tt, tk, v, tg, te⟩, emB⟩ = true ∧ (v.size ≤ 200 → okP ⟨tabOf ⟨tt, tk, v, tg, te⟩, keyOf ⟨tt, tk, v, tg, te⟩, v⟩ = true)) := Lib.hid ⟨turn_ok _ (by decide), turn_ok _⟩
        generalize tabOf ⟨tt, tk, v, tg, te⟩ = TT at HWD HBH HOB HOE
        generalize keyOf ⟨tt, tk, v, tg, te⟩ = KK at HWD HBH HOB HOE
        clear t1 t2
        have c0 := cell_at HG.out.2.1 (k := 0) rfl
        have c1 := cell_at HG.out.2.1 (k := 1) rfl
        have c2 := cell_at HG.out.2.1 (k := 2) rfl
        have c3 := cell_at HG.out.2.1 (k := 3) rfl
        have c4 := cell_at HG.out.2.1 (k := 4) rfl
        go_wp2_with fail
        refine (HWD.out _).mono ?_
        rintro e w7 ⟨rfl, hb7⟩
        have HB7 := Lib.hid hb7
        clear hb7
        have HG7 : Hid (v.size ≤ 200 ∧ w7.heap[G]? = some (.cells #[.int .i64 tt, .int .i64 tk, .string v, .bool tg, .bool te] 26 (0, 0)) ∧ ∃ D d FS X, LsAt w w7 P S ax now bx next next true t D d FS X ∧ G ∉ FS ++ D.F) := Lib.hid (by
         obtain ⟨h1, h2, D, d, FS, X, h3, h4⟩ := HG.out
         exact ⟨h1, (HB7.out.block _ (lt_of_heap h2)).trans h2, D, d, FS, X, h3.after HB7.out, h4⟩)
        clear HG HB7 HWD c0 c1 c2 c3 c4
        have c2 := cell_at HG7.out.2.1 (k := 2) rfl
        have c3 := cell_at HG7.out.2.1 (k := 3) rfl
        go_upto_if 123 with fail
        go_cut [24] from 94 to 240 (fun gv wx => gv = .int .i64 0 ∧ Hid (wx.heap[G]? = some (.cells #[.int .i64 tt, .int .i64 tk, .string v, .bool tg, .bool te] 26 (0, 0)) ∧ ∃ D d FS X, LsAt w wx P S ax now bx next (behindL next TT KK (if tg then none else some v)) true t D d FS X))
        case first =>
         as_aux_lemma =>
          obtain ⟨hv, hg, D, d, FS, X, h, hG⟩ := HG7.out
          have HB1 := Lib.hid (And.intro hv (And.intro hg (And.intro h hG)))
          have HST := Lib.hid h.ok
          have HON : Hid (X.opn = true ∧ X.nx = next) := Lib.hid ⟨h.opn, h.nx rfl⟩
          have HN6 : Hid (X.nx.length ≤ 60) := Lib.hid (by rw [h.nx rfl]; exact of60_len h.rx.1 h.of.2)
          have HTD := Lib.hid (HT.out _ h.frm.bel)
          have HR : Hid (∀ w8 X', StoStep w7 S D.p FS X' w8 → X'.h = X.h → X'.rs = X.rs → X'.ps = X.ps → X'.opn = true → X'.nx = behindL next TT KK (if tg then none else some v) → w8.heap[G]? = some (.cells #[.int .i64 tt, .int .i64 tk, .string v, .bool tg, .bool te] 26 (0, 0)) ∧ ∃ D d FS X, LsAt w w8 P S ax now bx next (behindL next TT KK (if tg then none else some v)) true t D d FS X) := Lib.hid fun w8 X' hs e1 e2 e3 e4 e5 => by
           obtain ⟨hv, hg, h, hG⟩ := HB1.out
           obtain ⟨h5, h6⟩ := HOB.out tg hv h.rx.1 h.of.2 h.rx.2
           obtain ⟨FS', h2⟩ := h.sto hs e1 e2 e3 e4 (fun _ => e5) nofun h5 h6
           obtain ⟨_, _, hu, _⟩ := hs
           exact ⟨(hu.block _ (lt_of_heap hg) (fun hm => hG (List.mem_append_left _ hm))).trans hg, _, _, _, _, h2⟩
          clear hv hg h hG HG7 HBH HOB
          cases tg
          ·have HPT := Lib.hid (put_pair w7 S D d FS X HST.out HON.out.1 HN6.out ⟨TT, KK, v⟩ (HOE.out.2 HB1.out.1) HTD.out)
           unfold pV at HPT
           dsimp only at HPT
           go_wp2_with (go_at_call 12; (with_reducible refine HPT.out.mono ?_); rintro e w8 ⟨rfl, hs⟩; have HS := Lib.hid hs; clear hs)
           go_meet
           exact ⟨rfl, Lib.hid (HR.out _ _ HS.out rfl rfl rfl HON.out.1 (by show behindL X.nx TT KK (some v) = _; rw [HON.out.2]; rfl))⟩
          ·have HPT := Lib.hid (drop_any w7 S D d FS X HST.out HON.out.1 HN6.out TT KK HOE.out.1 HTD.out)
           go_wp2_with (go_at_call 11; (with_reducible refine HPT.out.mono ?_); rintro e w8 ⟨rfl, hs⟩; have HS := Lib.hid hs; clear hs)
           go_meet
           exact ⟨rfl, Lib.hid (HR.out _ _ HS.out rfl rfl rfl HON.out.1 (by show behindL X.nx TT KK none = _; rw [HON.out.2]; rfl))⟩
        case rest =>
         clear HG7 HOB HOE c2 c3
         obtain ⟨rfl, HG⟩ := hcut
         have c0 := cell_at HG.out.1 (k := 0) rfl
         have c1 := cell_at HG.out.1 (k := 1) rfl
         have c2 := cell_at HG.out.1 (k := 2) rfl
         have c3 := cell_at HG.out.1 (k := 3) rfl
         have c4 := cell_at HG.out.1 (k := 4) rfl
         obtain ⟨xs, hxs⟩ : ∃ xs, behindL next TT KK (if tg then none else some v) = xs := ⟨_, rfl⟩
         rw [hxs] at HBH HG
         clear hxs
         have HBC : Hid (Calls Tryz.prog 13 #[.slice bx bn bc, .agg #[.int .i64 tt, .int .i64 tk, .string v, .bool tg, .bool te]] wc fun e w' => ∃ v', e = .returned v' ∧ OwnP wc w' v' xs) := Lib.hid (by
          obtain ⟨_, D, d, FS, X, h⟩ := HG.out
          exact HBH.out wc bx bn bc h.fb.prs HLN.out.2.2.1 HLN.out.2.2.2 (by
           have := HLN.out.2.2.1
           have := HN60.out.1
           omega))
         clear HBH
         go_wp2_with fail
         refine HBC.out.mono ?_
         rintro e w9 ⟨v9, rfl, ho9⟩
         have HG9 : Hid (w9.heap[G]? = some (.cells #[.int .i64 tt, .int .i64 tk, .string v, .bool tg, .bool te] 26 (0, 0))) := Lib.hid ((ho9.below.block _ (lt_of_heap HG.out.1)).trans HG.out.1)
         have HX9 : Hid (∃ x c, v9 = .slice x xs.length c ∧ xs.length ≤ c ∧ ∃ D d FS X, LsAt w w9 P S ax now x xs xs true t D d FS X) := Lib.hid (by
          obtain ⟨_, D, d, FS, X, h⟩ := HG.out
          obtain ⟨x, c, e, hc, h2⟩ := h.behind ho9
          exact ⟨x, c, e, hc, D, d, FS, X, h2⟩)
         clear ho9 HG HBC c0 c1 c2 c3 c4
         obtain ⟨x9, c9, rfl, hc9, hl9⟩ := HX9.out
         have HL9 := Lib.hid hl9
         have HC9 := Lib.hid hc9
         obtain ⟨n9, hn9⟩ : ∃ n, xs.length = n := ⟨_, rfl⟩
         have HN9 := Lib.hid hn9
         rw [hn9]
         clear hl9 hc9 hn9 HX9
         have c4 := cell_at HG9.out (k := 4) rfl
         clear HG9
         cases te
         ·go_wp2
          go_roundg (s - (t + 1))
          case measure => omega
          case rel => exact ⟨S, t + 1, dd, true, an, ac, n9, c9, ax, x9, now, xs, rfl, rfl, rfl, rfl, rfl, by go_num, by omega, hdd, Lib.hid ⟨HLN.out.1, HLN.out.2.1, HN9.out, by rw [← HN9.out]; exact HC9.out⟩, Lib.hid (by obtain ⟨D, d, FS, X, h⟩ := HL9.out; exact ⟨D, d, FS, X, h.later⟩)⟩
         ·go_upto_if 146 with fail
          go_cut [18] from 94 to 240 (fun di wx => ∃ d2 : Nat, di = .int .i64 d2 ∧ d2 ≤ dn ∧ Hid (∃ D d FS X, LsAt w wx P S ax now x9 xs xs true t D d FS X))
          case first =>
           as_aux_lemma =>
            by_cases hdl : dd < dn
            ·have g1 : (dd : Int) < dn := by omega
             have g2 : (0 : Int) ≤ dd := by omega
             obtain ⟨D, d, FS, X, h⟩ := HL9.out
             have hdx : dd < de.length := by rw [HDN.out]; exact hdl
             obtain ⟨db, doff, hdx2, z0, e0⟩ := (HDX.out.below h.frm.bel) dd hdx
             have hz := HDZ.out _ (List.getElem_mem hdx)
             generalize de[dd] = q at e0 hz
             have HPK := Lib.hid fun W => spick_any q 12 W (by decide) (by decide) hz.1 hz.2
             obtain ⟨p2, p3⟩ := pickS_in (c := q) (n := 12) (by decide)
             generalize pickS q 12 = PK at HPK p2 p3
             obtain ⟨PN, hPN⟩ := Int.eq_ofNat_of_zero_le p2
             subst hPN
             have HAR : Hid (Calls Tryz.prog 14 #[.pointer (some ⟨P, 0, none⟩), .int .i64 (1 + (PN : Int))] w9 fun e w' => e = .returned (.int .i64 0) ∧ DskAt w' D { d with armed := 1 + PN } ∧ But D.p w9 w') := Lib.hid (by
              rw [show (1 : Int) + (PN : Int) = ((1 + PN : Nat) : Int) by omega, ← h.p]
              exact darm_any w9 D d h.ok.dsk h.ok.set.live (1 + PN) (by omega))
             have HL1 := Lib.hid h
             have hPN2 : 1 + PN ≤ 9223372036854775807 := by omega
             clear hz p2 h hdx z0 HL9
             subst hdx2
             go_wp2_with (first
              | (go_at_call 7; (with_reducible refine (HPK.out _).mono ?_); rintro e w' ⟨rfl, rfl⟩)
              | (go_at_call 14; (with_reducible refine HAR.out.mono ?_); rintro e w10 ⟨rfl, ha1, ha2⟩; have HA9 := Lib.hid (And.intro ha1 ha2); clear ha1 ha2))
             go_meet
             exact ⟨dd + 1, by go_num, by omega, Lib.hid ⟨_, _, _, _, HL1.out.arm hPN2 HA9.out.1 HA9.out.2⟩⟩
            ·have g1 : ¬ (dd : Int) < dn := by omega
             go_wp2
             go_meet
             exact ⟨dd, rfl, hdd, HL9⟩
          case rest =>
           clear HL9 c4
           obtain ⟨d2, rfl, hd2, HL9⟩ := hcut
           have hn60 : n9 ≤ 60 := by
            obtain ⟨D, d, FS, X, h⟩ := HL9.out
            have := of60_len h.rx.1 h.of.2
            have := HN9.out
            omega
           have ha60 : an ≤ 60 := by
            have := HN60.out.2
            have := HLN.out.1
            omega
           have hc9 : n9 ≤ c9 := by rw [← HN9.out]; exact HC9.out
           obtain ⟨D, d, FS, X, h⟩ := HL9.out
           have HL1 := Lib.hid h
           have HCM := Lib.hid (commit_any wc S D d FS X h.ok h.opn (by have := h.gen; omega) (by rw [h.nx rfl]; exact of60_len h.rx.1 h.of.2) (by rw [h.ps]; exact of60_len h.rise h.of.1) (HT.out _ h.frm.bel))
           clear h HL9
           go_wp2_with fail
           refine HCM.out.mono ?_
           rintro e w8 ⟨E, d', v', rfl, hd8, hu8, hi8, hl8, hcase⟩
           clear HCM
           rcases hcase with ⟨rfl, FS', X', k1, k2, k3, k4, k5⟩ | ⟨rfl, FS', X', k1, k2, k3, k4, k5⟩ | ⟨rfl, k1, k2, k3⟩
           ·as_aux_lemma =>
             have HL2 := Lib.hid (HL1.out.went hu8 hi8 k1 k2 k3 k4 k5)
             clear HL1 hd8 hu8 hi8 hl8 k1 k2 k3 k4 k5
             have HAL := Lib.hid (HL2.out.all HN9.out)
             go_wp2_with (first
              | (go_at_call 20; (with_reducible refine HAL.out.mono ?_); rintro e w20 ⟨y20, c20, rfl, h1, h2, h3⟩; have HA20 := Lib.hid (And.intro h1 (And.intro h2 h3)); clear h1 h2 h3)
              | (go_at_call 19; (with_reducible refine (pairs_self HA20.out.1 HA20.out.2.1 HN9.out (by omega)).mono ?_); rintro e w21 ⟨rfl, hb⟩; have HB21 := Lib.hid hb; clear hb))
             go_roundg (s - (t + 1))
             case measure => omega
             case rel => exact ⟨_, t + 1, d2, false, n9, c9, n9, c9, x9, x9, xs, xs, rfl, rfl, rfl, rfl, rfl, by go_num, by omega, hd2, Lib.hid ⟨HN9.out, hc9, HN9.out, hc9⟩, Lib.hid ⟨_, _, _, _, (HL2.out.after HA20.out.2.2).after HB21.out⟩⟩
           ·as_aux_lemma =>
             have HL2 := Lib.hid (HL1.out.full hu8 hi8 k1 k2 k3 k4 k5)
             clear HL1 hd8 hu8 hi8 hl8 k1 k2 k3 k4 k5
             have HAL := Lib.hid (HL2.out.all HLN.out.1)
             go_wp2_with (first
              | (go_at_call 20; (with_reducible refine HAL.out.mono ?_); rintro e w20 ⟨y20, c20, rfl, h1, h2, h3⟩; have HA20 := Lib.hid (And.intro h1 (And.intro h2 h3)); clear h1 h2 h3)
              | (go_at_call 19; (with_reducible refine (pairs_self HA20.out.1 HA20.out.2.1 HLN.out.1 (by omega)).mono ?_); rintro e w21 ⟨rfl, hb⟩; have HB21 := Lib.hid hb; clear hb))
             go_roundg (s - (t + 1))
             case measure => omega
             case rel => exact ⟨_, t + 1, d2, false, an, ac, an, ac, ax, ax, now, now, rfl, rfl, rfl, rfl, rfl, by go_num, by omega, hd2, Lib.hid ⟨HLN.out.1, HLN.out.2.1, HLN.out.1, HLN.out.2.1⟩, Lib.hid ⟨_, _, _, _, (HL2.out.after HA20.out.2.2).after HB21.out⟩⟩
           ·have HDX8 : Hid (∃ D8 F8, LsDead w w8 P ax now x9 xs t D8 d' F8) := Lib.hid ⟨_, _, HL1.out.died hu8 hi8 hd8 k1 k3⟩
            obtain ⟨D8, F8, hd8x⟩ := HDX8.out
            have HD8 := Lib.hid hd8x
            have HPD : Hid (Calls Tryz.prog 16 #[.pointer (some ⟨P, 0, none⟩)] w8 fun e w' => ∃ v', e = .returned v' ∧ HeldN w' v' d'.ps ∧ (∀ g, v'.ownBlock = some g → w8.heap.size ≤ g) ∧ Below w8.heap.size w8 w') := Lib.hid (by
             have h2 := dpending_any w8 D8 d' HD8.out.dsk HD8.out.ok
             rw [HD8.out.p] at h2
             exact h2)
            have hpl := k1.plen
            clear HL1 hd8 hu8 hi8 hl8 k1 k2 k3 hd8x HDX8
            go_wp2_with fail
            refine HPD.out.mono ?_
            rintro e w10 ⟨v10, rfl, h1, h2, h3⟩
            obtain ⟨px, pc, rfl, hpi⟩ := h1.ints
            have HPI := Lib.hid hpi
            have HD10 := Lib.hid (HD8.out.after h3)
            obtain ⟨pn, hpn⟩ : ∃ pn, d'.ps.length = pn := ⟨_, rfl⟩
            rw [hpn] at hpl ⊢
            have HPN := Lib.hid hpn
            clear h1 h2 h3 hpi hpn HD8 HPD
            go_wp2
            go_loopg [27, 28] pn (fun g lv kv wr => ∃ (kk : Nat) (ls : List Nat) (l0 : Value), l0 = lv ∧ kv = .int .i64 kk ∧ kk + g = pn ∧ Hid (HeldN wr l0 ls ∧ (∀ g, l0.ownBlock = some g → w10.heap.size ≤ g) ∧ Upd [] w10 wr ∧ ls.Sublist (d'.ps.take kk)))
            case atStart => exact ⟨0, [], .slice none 0 0, rfl, rfl, by omega, Lib.hid ⟨HeldN.nil_ _, nofun, Upd.refl _ _, by simp⟩⟩
            case round =>
             obtain ⟨kk, ls, l0, rfl, rfl, hkg, HLV⟩ := hrel
             by_cases hkl : kk < pn
             ·have g1 : (kk : Int) < pn := by omega
              have g2 : (0 : Int) ≤ kk := by omega
              have hkx : kk < d'.ps.length := by rw [HPN.out]; exact hkl
              have HBW : Hid (Below w10.heap.size w10 wr) := Lib.hid (HLV.out.2.2.1.below nofun (Nat.le_refl _))
              obtain ⟨pb, po, hpx, z0, e0⟩ := (HPI.out.below HBW.out) kk (by simpa using hkx)
              rw [List.getElem_map] at e0
              have HTP : Hid (∀ ls : List Nat, ls.Sublist (d'.ps.take kk) → (ls ++ [d'.ps[kk]]).Sublist (d'.ps.take (kk + 1))) := Lib.hid fun ls h => take_put h hkx
              generalize d'.ps[kk] = PX at e0 HTP
              have hwk : w.heap.size ≤ w10.heap.size := by have := HD10.out.two.frm.bel.size; exact this
              clear hkx z0
              subst hpx
              by_cases hk0 : kn = 0
              ·have g3 : ¬ (0 : Int) < kn := by omega
               clear hk0
               go_wp2
               go_roundg (pn - (kk + 1))
               case measure => omega
               case rel => exact ⟨kk + 1, ls, l0, rfl, by go_num, by omega, Lib.hid ⟨HLV.out.1, HLV.out.2.1, HLV.out.2.2.1, HLV.out.2.2.2.trans take_sub⟩⟩
              ·have g3 : (0 : Int) < kn := by omega
               obtain ⟨m, hm⟩ : ∃ m, (kk + d2) % kn = m := ⟨_, rfl⟩
               have hmk : m < kn := by rw [← hm]; exact Nat.mod_lt _ (by omega)
               have htm1 : Int.tmod ((kk : Int) + (d2 : Int)) (kn : Int) = (m : Int) := by
                rw [Int.tmod_eq_emod_of_nonneg (by omega), ← hm]; simp
               have hkx3 : m < ke.length := by rw [HKN.out]; exact hmk
               obtain ⟨kb, ko, hkx2, z1, e1⟩ := (HKX.out.below (HD10.out.two.frm.bel.trans (HBW.out.mono hwk))) m hkx3
               have hz := HKZ.out _ (List.getElem_mem hkx3)
               generalize ke[m] = q at e1 hz
               have HPK := Lib.hid fun W => spick_any q 2 W (by decide) (by decide) hz.1 hz.2
               obtain ⟨p2, p3⟩ := pickS_in (c := q) (n := 2) (by decide)
               generalize pickS q 2 = PK at HPK p2 p3
               have g4 : ¬ (kn : Int) = 0 := by omega
               have g5 : ((kn : Int) == 0) = false := by rw [beq_eq_false_iff_ne]; exact g4
               have g6 : (0 : Int) ≤ m := by omega
               have g7 : (m : Int) < kn := by omega
               clear hz hkx3 z1 hm
               subst hkx2
               have hpk : PK = 0 ∨ PK = 1 := by omega
               rcases hpk with rfl | rfl
               ·go_wp2_with fail
                refine (HPK.out _).mono ?_
                rintro e w' ⟨rfl, rfl⟩
                go_wp2
                go_roundg (pn - (kk + 1))
                case measure => omega
                case rel => exact ⟨kk + 1, ls, l0, rfl, by go_num, by omega, Lib.hid ⟨HLV.out.1, HLV.out.2.1, HLV.out.2.2.1, HLV.out.2.2.2.trans take_sub⟩⟩
               ·have HLA : Hid (HeldN (wr.alloc (.cells #[.int .i64 PX] 3)) l0 ls) := Lib.hid (HeldN.alloc HLV.out.1 _)
                have HE1 : Hid (ls.length ≤ 1000000) := Lib.hid (by
                 have h := HLV.out.2.2.2.length_le
                 rw [List.length_take] at h
                 omega)
                go_wp2_with fail
                refine (HPK.out _).mono ?_
                rintro e w' ⟨rfl, rfl⟩
                go_wp2_with (at_builtin; refine appendN rfl _ _ rfl HLA.out rfl rfl (k := PX) (by simp [nI]) HE1.out ?_; intro v5 w5 hv5 hg5 hl5; have HV5 := Lib.hid (held_push HLV.out.2.1 HLV.out.2.2.1 hv5 hg5 hl5); clear hv5 hg5 hl5)
                go_roundg (pn - (kk + 1))
                case measure => omega
                case rel => exact ⟨kk + 1, _, _, rfl, by go_num, by omega, Lib.hid ⟨HV5.out.1, HV5.out.2.1, HV5.out.2.2, HTP.out _ HLV.out.2.2.2⟩⟩
             ·have g1 : ¬ (kk : Int) < pn := by omega
              have HB11 : Hid (Below w10.heap.size w10 wr) := Lib.hid (HLV.out.2.2.1.below nofun (Nat.le_refl _))
              have HD11 := Lib.hid (HD10.out.after HB11.out)
              have HOO : Hid (OutOf d'.ps ls ∧ ls.length ≤ 5000) := Lib.hid (by
               have h := HLV.out.2.2.2.trans (List.take_sublist _ _)
               exact ⟨outOf_sub h, by have := h.length_le; have := HPN.out; omega⟩)
              have HCR : Hid (Calls Tryz.prog 17 #[.pointer (some ⟨P, 0, none⟩), l0] wr fun e w' => e = .returned (.int .i64 0) ∧ DStep wr D8 (d'.crashed ls) w') := Lib.hid (by
               have h := HD11.out
               have h2 := dcrash_any wr D8 d' h.dsk h.ok l0 ls HLV.out.1 HOO.out.1 HOO.out.2
               rw [h.p] at h2
               exact h2)
              clear HLV HB11 HOO HPI HPN HD10 hpl
              go_wp2_with fail
              refine HCR.out.mono ?_
              rintro e w12 ⟨rfl, hs⟩
              have HOP : Hid (Calls Tryz.prog 18 #[.pointer (some ⟨P, 0, none⟩)] w12 fun e w' => ∃ S FS X D' d2', e = .returned (.tuple #[.pointer (some ⟨S, 0, none⟩), .int .i64 0]) ∧ LsOp w w' P S ax now x9 xs t D' d2' FS X) := Lib.hid (by
               have h11 := HD11.out
               obtain ⟨D', F', d2', hh, rs, ps, m1, m2, m3, m4, m5, m6, m7, m8, m9⟩ := h11.crash hs
               have h2 := open_any w12 D' d2' m1 m3 hh rs ps m4 m5 (HT.out _ m8.frm.bel)
               rw [m2] at h2
               refine h2.mono ?_
               rintro e w' ⟨S', FS', X', rfl, k1, k2, k3, k4, k5, k6⟩
               exact ⟨S', FS', X', D', d2', rfl, m8.opened m9 m2 k1 k5 k6 (by rw [k3]; exact m6) k4 (by rw [k2]; exact m7) h11.rn h11.rx⟩)
              clear hs HCR HD11
              go_wp2_with fail
              refine HOP.out.mono ?_
              rintro e w13 ⟨S2, FS2, X2, D2, e2, rfl, hop⟩
              have HLO := Lib.hid hop
              obtain ⟨qs, hqs⟩ : ∃ qs, X2.ps = qs := ⟨_, rfl⟩
              obtain ⟨ql, hql⟩ : ∃ ql, qs.length = ql := ⟨_, rfl⟩
              have hq6 : ql ≤ 60 := by
               rw [← hql, ← hqs]
               rcases hop.ps with e | e
               ·rw [e]; exact HN60.out.2
               ·rw [e, HN9.out]; exact hn60
              have HQS := Lib.hid hqs
              have HQL := Lib.hid hql
              clear hop hqs hql HOP
              have HAA : Hid (∀ W, Below w13.heap.size w13 W → Calls Tryz.prog 20 #[.pointer (some ⟨S2, 0, none⟩)] W fun e w' => ∃ y c, e = .returned (.slice y ql c) ∧ PrsAt w' y qs ∧ Below W.heap.size W w') := Lib.hid fun W hb => by
               have h := (HLO.out.after hb).all
               rw [HQS.out, HQL.out] at h
               exact h
              have HP1 : Hid (∀ W y c, Below w13.heap.size w13 W → PrsAt W y qs → Calls Tryz.prog 19 #[.slice y ql c, .slice ax an ac] W fun e w' => e = .returned (.bool (sameB qs now)) ∧ Below W.heap.size W w') := Lib.hid fun W y c hb hp => spairs_any qs now y ax ql an c ac W hp (HLO.out.two.fa.prs.below hb) HQL.out HLN.out.1 (by omega)
              have HP2 : Hid (∀ W y c, Below w13.heap.size w13 W → PrsAt W y qs → Calls Tryz.prog 19 #[.slice y ql c, .slice x9 n9 c9] W fun e w' => e = .returned (.bool (sameB qs xs)) ∧ Below W.heap.size W w') := Lib.hid fun W y c hb hp => spairs_any qs xs y x9 ql n9 c c9 W hp (HLO.out.two.fb.prs.below hb) HQL.out HN9.out (by omega)
              have HBA : Hid (Below w13.heap.size w13 w13) := Lib.hid (Below.refl _ _)
              by_cases hw : qs = now
              ·rw [hw, sameB_self] at HP1
               have HLW := Lib.hid (HLO.out.was (HQS.out.trans hw))
               rw [← hw] at HP1
               generalize sameB qs xs = BB at HP2
               clear hw HQS HQL HLO
               go_wp2_with fail
               refine (HAA.out _ HBA.out).mono ?_
               rintro e w30 ⟨y0, k0, rfl, hp, hb⟩
               have HY0 := Lib.hid hp
               have HBB := Lib.hid (HBA.out.trans (hb.mono HBA.out.size))
               clear hp hb
               go_wp2_with fail
               refine (HP1.out _ _ _ HBB.out HY0.out).mono ?_
               rintro e w31 ⟨rfl, hb⟩
               have HBC := Lib.hid (HBB.out.trans (hb.mono HBB.out.size))
               clear hb
               go_wp2_with fail
               refine (HAA.out _ HBC.out).mono ?_
               rintro e w32 ⟨y2, k2, rfl, hp, hb⟩
               have HY2 := Lib.hid hp
               have HBD := Lib.hid (HBC.out.trans (hb.mono HBC.out.size))
               clear hp hb
               go_wp2_with fail
               refine (HP2.out _ _ _ HBD.out HY2.out).mono ?_
               rintro e w33 ⟨rfl, hb⟩
               have HBE := Lib.hid (HBD.out.trans (hb.mono HBD.out.size))
               clear hb
               go_wp2_with fail
               refine (HAA.out _ HBE.out).mono ?_
               rintro e w34 ⟨y4, k4, rfl, hp, hb⟩
               have HY4 := Lib.hid hp
               have HBF := Lib.hid (HBE.out.trans (hb.mono HBE.out.size))
               clear hp hb
               go_wp2_with fail
               refine (HP1.out _ _ _ HBF.out HY4.out).mono ?_
               rintro e w35 ⟨rfl, hb⟩
               have HBG := Lib.hid (HBF.out.trans (hb.mono HBF.out.size))
               clear hb
               go_wp2
               go_roundg (s - (t + 1))
               case measure => omega
               case rel => exact ⟨S2, t + 1, d2, false, an, ac, an, ac, ax, ax, now, now, rfl, rfl, rfl, rfl, rfl, by go_num, by omega, hd2, Lib.hid ⟨HLN.out.1, HLN.out.2.1, HLN.out.1, HLN.out.2.1⟩, Lib.hid ⟨_, _, _, _, HLW.out.after HBG.out⟩⟩
              ·have hx : qs = xs := by
                rcases HLO.out.ps with e | e
                ·exact absurd (HQS.out.symm.trans e) hw
                ·exact HQS.out.symm.trans e
               have HLW := Lib.hid (HLO.out.is (HQS.out.trans hx))
               rw [sameB_no hw] at HP1
               rw [hx, sameB_self] at HP2
               rw [← hx] at HP2
               clear hw hx HQS HQL HLO
               go_wp2_with fail
               refine (HAA.out _ HBA.out).mono ?_
               rintro e w30 ⟨y0, k0, rfl, hp, hb⟩
               have HY0 := Lib.hid hp
               have HBB := Lib.hid (HBA.out.trans (hb.mono HBA.out.size))
               clear hp hb
               go_wp2_with fail
               refine (HP1.out _ _ _ HBB.out HY0.out).mono ?_
               rintro e w31 ⟨rfl, hb⟩
               have HBC := Lib.hid (HBB.out.trans (hb.mono HBB.out.size))
               clear hb
               go_wp2_with fail
               refine (HAA.out _ HBC.out).mono ?_
               rintro e w32 ⟨y2, k2, rfl, hp, hb⟩
               have HY2 := Lib.hid hp
               have HBD := Lib.hid (HBC.out.trans (hb.mono HBC.out.size))
               clear hp hb
               go_wp2_with fail
               refine (HP2.out _ _ _ HBD.out HY2.out).mono ?_
               rintro e w33 ⟨rfl, hb⟩
               have HBE := Lib.hid (HBD.out.trans (hb.mono HBD.out.size))
               clear hb
               go_wp2_with fail
               refine (HAA.out _ HBE.out).mono ?_
               rintro e w34 ⟨y4, k4, rfl, hp, hb⟩
               have HY4 := Lib.hid hp
               have HBF := Lib.hid (HBE.out.trans (hb.mono HBE.out.size))
               clear hp hb
               go_wp2_with fail
               refine (HP2.out _ _ _ HBF.out HY4.out).mono ?_
               rintro e w35 ⟨rfl, hb⟩
               have HBG := Lib.hid (HBF.out.trans (hb.mono HBF.out.size))
               clear hb
               go_wp2
               go_roundg (s - (t + 1))
               case measure => omega
               case rel => exact ⟨S2, t + 1, d2, false, n9, c9, n9, c9, x9, x9, xs, xs, rfl, rfl, rfl, rfl, rfl, by go_num, by omega, hd2, Lib.hid ⟨HN9.out, hc9, HN9.out, hc9⟩, Lib.hid ⟨_, _, _, _, HLW.out.after HBG.out⟩⟩
     ·have q1 : ¬ (t : Int) < s := by omega
      obtain ⟨D, d, FS, X, h⟩ := HL.out
      have ha60 : an ≤ 60 := by
       have := of60_len h.rise h.of.1
       have := HLN.out.1
       omega
      have HAL := Lib.hid (h.all HLN.out.1)
      have HBF := Lib.hid h.frm.bel
      clear h HL
      go_wp2_with (first
       | (go_at_call 20; (with_reducible refine HAL.out.mono ?_); rintro e w20 ⟨y20, c20, rfl, h1, h2, h3⟩; have HA20 := Lib.hid (And.intro h1 (And.intro h2 h3)); clear h1 h2 h3)
       | (go_at_call 19; (with_reducible refine (pairs_self HA20.out.1 HA20.out.2.1 HLN.out.1 (by omega)).mono ?_); rintro e w21 ⟨rfl, hb⟩; have HB21 := Lib.hid hb; clear hb))
      go_ret
      exact ⟨rfl, HBF.out.trans ((HA20.out.2.2.trans (HB21.out.mono HA20.out.2.2.size)).mono HBF.out.size)⟩
   ·have q3 : (2147483647 : Int) < N := by omega
    go_wp2
    go_ret
    exact ⟨rfl, HB.out⟩
end Go.Proofs.YtlommddabccdeaaGreatDoor
