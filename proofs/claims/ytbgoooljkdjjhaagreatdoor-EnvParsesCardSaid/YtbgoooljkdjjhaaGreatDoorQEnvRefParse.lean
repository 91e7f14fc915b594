/-
  EnvRefParse.
-/
import Derived.Test.YtbgoooljkdjjhaaGreatDoorQEnvRefs
import Derived.Test.YtbgoooljkdjjhaaGreatDoorQEnvParse
namespace Go.Proofs.YtbgoooljkdjjhaaGreatDoor
open Go.ChangeShapes Go.WideShapes Go.ChangeAt Go.RowKit

/-- A name begins as one of the parts does. -/
def likeK (nm : List UInt8) (n : ByteArray) : Bool := nm.contains 95 && (calledL (upTo 46 n.data.toList) == upTo 95 nm)
theorem likeN_snoc (ns : List ByteArray) (n : ByteArray) (nm : List UInt8) : likeN (ns ++ [n]) nm = (likeN ns nm || likeK nm n) := by
  unfold likeN likeK
  rw [List.any_append, List.any_cons, List.any_nil, Bool.or_false]
  cases nm.contains 95 <;> simp
theorem begins_is {n : ByteArray} (h : n.data.toList.all okc = true) (nm : List UInt8) (t : ByteArray) (ht : t.data.toList = calledL (upTo 46 n.data.toList) ++ [95]) : (decide (t.data.toList.length ≤ nm.length) && (nm.take t.data.toList.length == t.data.toList)) = likeK nm n := by
  rw [ht, List.length_append, List.length_singleton]
  exact prefix_like (first_nojoint h)
theorem findN_snoc_none {ns : List ByteArray} {n : ByteArray} {nm : List UInt8} (h : findN ns nm = none) (hne : (calledL n.data.toList == nm) = false) : findN (ns ++ [n]) nm = none := by
  unfold findN at h ⊢
  rw [List.find?_append, h]
  simp [hne]
theorem findN_hit {ns : List ByteArray} {k : Nat} (hk : k < ns.length) {nm : List UInt8} (h : findN (ns.take k) nm = none) (he : (calledL ns[k].data.toList == nm) = true) : findN ns nm = some ns[k] := by
  have hw : ns = ns.take k ++ ns[k] :: ns.drop (k + 1) := by
    conv => lhs; rw [← List.take_append_drop k ns, List.drop_eq_getElem_cons hk]
  unfold findN at h ⊢
  conv => lhs; rw [hw]
  rw [List.find?_append, h, List.find?_cons, he]
  rfl
theorem pairE_like {ns : List ByteArray} {p : List UInt8} (h1 : p.contains 61 = true) (h2 : (upTo 61 p).isEmpty = false) (h3 : findN ns (upTo 61 p) = none) : pairE ns p = (if likeN ns (upTo 61 p) = true then 81 else 0) ∧ ∀ k, pairG ns k p = [] := by
  unfold pairE pairG
  rw [h1, h2, h3]
  exact ⟨by simp, fun _ => rfl⟩
theorem pairE_hit {ns : List ByteArray} {p : List UInt8} {n : ByteArray} (h1 : p.contains 61 = true) (h2 : (upTo 61 p).isEmpty = false) (h3 : findN ns (upTo 61 p) = some n) : pairE ns p = 0 ∧ ∀ k, pairG ns k p = [⟨n, mkB (after 61 p), k⟩] := by
  unfold pairE pairG
  rw [h1, h2, h3]
  exact ⟨by simp, fun _ => rfl⟩
/-- Behind the first part of a pair. -/
theorem after_part (p nb : ByteArray) (h : p.data.toList.contains 61 = true) (hn : nb.data.toList = upTo 61 p.data.toList) :
    nb.size + 1 ≤ p.size ∧ p.extract (nb.size + 1) p.size = mkB (after 61 p.data.toList) := by
  have hw := whole_is 61 p.data.toList h
  have hl := congrArg List.length hw
  rw [List.length_append, List.length_cons, ← hn] at hl
  have e1 : p.data.toList.length = p.size := by simp
  have e2 : nb.data.toList.length = nb.size := by simp
  refine ⟨by omega, ?_⟩
  have hx : (p.extract (nb.size + 1) p.size).data.toList = p.data.toList.drop (nb.size + 1) := by
    rw [ByteArray.data_extract, Array.toList_extract]
    show List.take (p.size - (nb.size + 1)) (List.drop (nb.size + 1) p.data.toList) = _
    rw [List.take_of_length_le (by rw [List.length_drop]; omega)]
  rw [← mkB_self (p.extract (nb.size + 1) p.size), hx]
  congr 1
  conv => lhs; rw [hw, ← hn]
  rw [← e2, List.drop_append]
  simp
set_option maxHeartbeats 6400000 in
set_option maxRecDepth 100000 in
theorem erefParse_any (ns : List ByteArray) (y : Option Addr) (m d : Nat) (ps : List ByteArray) (px : Option Addr) (n pc : Nat) (w : World) (hn : TxAt w y ns) (hm : ns.length = m) (hml : m ≤ 1000) (hok : ∀ n ∈ ns, nameB n.data.toList = true)
    (hp : TxAt w px ps) (hpn : ps.length = n) (hl : n ≤ 2147483647) (hz : ∀ p ∈ ps, p.size ≤ 2147483647) :
    Calls Tryz.prog 25 #[.slice y m d, .slice px n pc] w (EnvRes w (envP ns ps)) := by
  have HTN : Hid (∀ W, Below w.heap.size w W → TxAt W y ns) := Lib.hid fun W hb => hn.below hb
  have HTP : Hid (∀ W, Below w.heap.size w W → TxAt W px ps) := Lib.hid fun W hb => hp.below hb
  have HZ := Lib.hid hz
  have HOK := Lib.hid hok
  have HPN := Lib.hid hpn
  have HMN := Lib.hid hm
  have HNZ : Hid (∀ n ∈ ns, n.size ≤ 4294967280) := Lib.hid fun n hn => by
    have := name_len (hok n hn)
    have e : n.data.toList.length = n.size := by simp
    omega
  have HNA : Hid (∀ n ∈ ns, n.data.toList.all okc = true) := Lib.hid fun n hn => name_ok (hok n hn)
  obtain ⟨R, hR⟩ : ∃ R, envP ns ps = R := ⟨_, rfl⟩
  have HR : Hid (envGo ns 0 (ps.drop 0) [] = R) := Lib.hid hR
  have HO0 : Hid (OwnG w w (.slice none 0 0) []) := Lib.hid ⟨World.ownsRow_nil _ _ _ _, Below.refl _ _⟩
  have HBG : Hid (∀ (s t : ByteArray) (W : World), s.size ≤ 2147483647 → t.size ≤ 4294967290 → Calls Tryz.prog 48 #[.string s, .string t] W fun e w' => e = .returned (.bool (decide (t.data.toList.length ≤ s.data.toList.length) && (s.data.toList.take t.data.toList.length == t.data.toList))) ∧ W = w') := Lib.hid fun s t W hs ht => ebegins_any s t W (by unfold maxLen; omega) (by unfold maxLen; omega)
  rw [hR]
  clear hn hp hz hok hpn hR hm
  go_enter Tryz.func25, Tryz.ntmps25
  go_wp2
  go_loopw [7, 8] (fun vv i wr => ∃ (v : Value) (t : Nat) (gs : List GivV), v = vv ∧ i = .int .i64 t ∧ t ≤ n ∧ gs.length ≤ t ∧ Hid (OwnG w wr v gs) ∧ Hid (envGo ns t (ps.drop t) gs = R)) (fun _ i _ => n - (intOf i).toNat)
  case atStart => exact ⟨_, 0, [], rfl, rfl, by omega, by simp, HO0, HR⟩
  case round =>
    clear HO0 HR
    obtain ⟨v, t, gs, rfl, rfl, ht, hgl, HO, HR⟩ := hrel
    by_cases hlt : t < n
    · have q1 : (0 : Int) ≤ t := by omega
      have q2 : (t : Int) < n := by omega
      have htx : t < ps.length := by rw [HPN.out]; exact hlt
      obtain ⟨bx, off, hxe, hxl, d0⟩ := (HTP.out _ HO.out.below) t htx
      have hRd := HR.out
      rw [env_drop ns ps t htx] at hRd
      have hpz := HZ.out _ (List.getElem_mem htx)
      have HXC : Hid (∀ W, Below w.heap.size w W → W.cell? ⟨bx, off + t, none⟩ = some (.string ps[t])) := Lib.hid fun W hb => by
        obtain ⟨b', o', e', _, c'⟩ := (HTP.out W hb) t htx
        obtain ⟨rfl, rfl⟩ : bx = b' ∧ off = o' := by simpa using hxe.symm.trans e'
        exact c'
      generalize ps[t] = p at *
      have HF : Hid (∀ W, Calls Tryz.prog 47 #[.string p, .int .u8 61] W fun e w' => e = .returned (.tuple #[.string (mkB (upTo 61 p.data.toList)), .bool (p.data.toList.contains 61)]) ∧ W = w') := Lib.hid fun W => efirst_any p 61 W (by unfold maxLen; omega)
      have hcase : (p.data.toList.contains 61 = false ∧ pairE ns p.data.toList = 80) ∨ (p.data.toList.contains 61 = true ∧ (upTo 61 p.data.toList).isEmpty = true ∧ pairE ns p.data.toList = 80) ∨ (p.data.toList.contains 61 = true ∧ (upTo 61 p.data.toList).isEmpty = false) := by
        rcases pair_cases ns t p.data.toList with h | h | ⟨h1, h2, _⟩ | ⟨h1, h2, _⟩ | ⟨h1, h2, _⟩
        · exact .inl h
        · exact .inr (.inl h)
        · exact .inr (.inr ⟨h1, h2⟩)
        · exact .inr (.inr ⟨h1, h2⟩)
        · exact .inr (.inr ⟨h1, h2⟩)
      obtain ⟨nb, hnbe⟩ : ∃ nb, mkB (upTo 61 p.data.toList) = nb := ⟨_, rfl⟩
      have hnb : upTo 61 p.data.toList = nb.data.toList := by rw [← hnbe, mkB_data]
      have hem : nb.data.toList.isEmpty = nb.toList.isEmpty := by rw [Lib.toList_data]
      have HNB := Lib.hid hnb
      rw [hnb, hem] at hcase
      rw [hnbe] at HF
      have hnz : nb.size ≤ 2147483647 := by
        have h2 : (upTo 61 p.data.toList).length ≤ p.data.toList.length := (List.takeWhile_sublist _).length_le
        have h3 : p.data.toList.length = p.size := by simp
        have h4 : nb.data.toList.length = nb.size := by simp
        rw [hnb] at h2
        omega
      clear hem HR hnb hnbe
      subst hxe
      rcases hcase with ⟨k1, k2⟩ | ⟨k1, k2, k3⟩ | ⟨k1, k2⟩
      · rw [k2, if_neg (by decide)] at hRd
        have HRR := Lib.hid hRd
        rw [k1] at HF
        clear k2 htx hRd
        go_wp2_with fail
        refine (HF.out _).mono ?_
        rintro e w2 ⟨rfl, rfl⟩
        go_wp2
        go_ret3
        rw [← HRR.out]
        exact envres_err _ _ HO.out.below
      · rw [k3, if_neg (by decide)] at hRd
        have HRR := Lib.hid hRd
        rw [k1] at HF
        clear k3 htx hRd
        go_wp2_with fail
        refine (HF.out _).mono ?_
        rintro e w2 ⟨rfl, rfl⟩
        go_wp2
        go_ret3
        rw [← HRR.out]
        exact envres_err _ _ HO.out.below
      · have HRd := Lib.hid hRd
        have hasl := after_part p nb k1 HNB.out.symm
        have HSL := Lib.hid hasl
        have HK1 := Lib.hid k1
        rw [k1] at HF
        have HL0 : Hid (findN (ns.take 0) nb.data.toList = none) := Lib.hid rfl
        clear htx hRd hasl
        go_wp2_with fail
        refine (HF.out _).mono ?_
        rintro e w2 ⟨rfl, rfl⟩
        go_wp2
        go_loopw [7, 11, 12, 13] (fun vv fo li kk ws => ∃ (v' : Value) (j : Nat), v' = vv ∧ v' = v ∧ fo = .bool false ∧ li = .bool (likeN (ns.take j) nb.data.toList) ∧ kk = .int .i64 j ∧ j ≤ m ∧ Hid (findN (ns.take j) nb.data.toList = none) ∧ Hid (OwnG w ws v gs)) (fun _ _ _ kk _ => m - (intOf kk).toNat)
        case atStart => exact ⟨_, 0, rfl, rfl, rfl, by rw [show likeN (ns.take 0) nb.data.toList = false by simp [likeN]], rfl, by omega, HL0, HO⟩
        case round =>
          clear HL0 HO
          obtain ⟨v', j, rfl, rfl, rfl, rfl, rfl, hj, HL, HO⟩ := hrel
          by_cases hjt : j < m
          · have q3 : (0 : Int) ≤ j := by omega
            have q4 : (j : Int) < m := by omega
            have hjn : j < ns.length := by rw [HMN.out]; exact hjt
            obtain ⟨by_, oy, ey, _, cy⟩ := (HTN.out _ HO.out.below) j hjn
            have HCY : Hid (∀ W, Below w.heap.size w W → W.cell? ⟨by_, oy + j, none⟩ = some (.string ns[j])) := Lib.hid fun W hb => by
              obtain ⟨b', o', e', _, c'⟩ := (HTN.out W hb) j hjn
              obtain ⟨rfl, rfl⟩ : by_ = b' ∧ oy = o' := by simpa using ey.symm.trans e'
              exact c'
            have hnm := HNZ.out _ (List.getElem_mem hjn)
            have hna := HNA.out _ (List.getElem_mem hjn)
            have hlk := likeN_snoc (ns.take j) ns[j] nb.data.toList
            rw [← List.take_succ_eq_append_getElem hjn] at hlk
            have HFD : Hid ((calledL ns[j].data.toList == nb.data.toList) = true → findN ns nb.data.toList = some ns[j]) := Lib.hid (findN_hit hjn HL.out)
            have HFN : Hid ((calledL ns[j].data.toList == nb.data.toList) = false → findN (ns.take (j + 1)) nb.data.toList = none) := Lib.hid fun h => by
              rw [List.take_succ_eq_append_getElem hjn]
              exact findN_snoc_none HL.out h
            generalize ns[j] = nm at *
            have HF2 : Hid (∀ W, Calls Tryz.prog 47 #[.string nm, .int .u8 46] W fun e w' => e = .returned (.tuple #[.string (mkB (upTo 46 nm.data.toList)), .bool (nm.data.toList.contains 46)]) ∧ W = w') := Lib.hid fun W => efirst_any nm 46 W (by unfold maxLen; omega)
            have HGR : Hid (∀ (s : ByteArray) (W : World), s.size ≤ 4294967280 → Calls Tryz.prog 42 #[.string s] W fun e w' => e = .returned (.string (mkB (calledL s.data.toList))) ∧ Below W.heap.size W w') := Lib.hid fun s W hs => great_any s W (by unfold maxLen; omega)
            obtain ⟨gr, hgr⟩ : ∃ gr, mkB (calledL nm.data.toList) = gr := ⟨_, rfl⟩
            have hgr2 : (calledL nm.data.toList == nb.data.toList) = (gr.toList == nb.toList) := by rw [← hgr, Lib.toList_data, Lib.toList_data, mkB_data]
            have HG1 : Hid (∀ W : World, Calls Tryz.prog 42 #[.string nm] W fun e w' => e = .returned (.string gr) ∧ Below W.heap.size W w') := Lib.hid fun W => by
              have := HGR.out nm W hnm
              rw [hgr] at this
              exact this
            rw [hgr2] at HFD HFN
            subst ey
            clear hjn hgr hgr2
            by_cases heq : (gr.toList == nb.toList) = true
            · have hE := pairE_hit HK1.out (by rw [HNB.out, ← Lib.toList_data]; exact k2) (by rw [HNB.out]; exact HFD.out heq)
              have hRd := HRd.out
              rw [if_pos hE.1, hE.2] at hRd
              have HRR := Lib.hid hRd
              clear hE hRd hlk HFD HFN HL HGR hna
              go_wp2_with fail
              refine (HF2.out _).mono ?_
              rintro e w3 ⟨rfl, rfl⟩
              go_wp2_with fail
              refine (HG1.out _).mono ?_
              rintro e w3 ⟨rfl, hb3⟩
              have HO3 := Lib.hid (HO.out.after hb3)
              have cy2 := HCY.out _ HO3.out.below
              have d1 := HXC.out _ HO3.out.below
              have HOW : Hid (∀ o, (w3.drew.alloc o).ownsRow w.heap.size 27 3 v' gs.length (gFlat gs)) := Lib.hid fun o => (HO3.out.after (below_drewN w3 1)).own.alloc o
              have HSZ : Hid (∀ o, w.heap.size ≤ (w3.drew.alloc o).heap.size) := Lib.hid fun o => Nat.le_trans HO3.out.below.size (below_drew_alloc w3 o).size
              have HPU : Hid (∀ o W2 g2 cap, W2.ownsRow w.heap.size 27 3 (.slice (some ⟨g2, 0, none⟩) (gs.length + 1) cap) (gs.length + 1) (gFlat gs ++ gCells ⟨nm, mkB (after 61 p.data.toList), t⟩) → (w3.drew.alloc o).grownBy W2 v'.ownBlock → OwnG w W2 (.slice (some ⟨g2, 0, none⟩) (gs.length + 1) cap) (gs ++ [⟨nm, mkB (after 61 p.data.toList), t⟩])) := Lib.hid fun o W2 g2 cap h1 h2 => by
                refine ⟨?_, (HO3.out.after (below_drew_alloc w3 o)).below.grown h2 (HSZ.out o) (fun k hk => (HO3.out.own.lt k hk).1)⟩
                rw [List.length_append, gFlat_snoc]
                exact h1
              have hgl2 : gs.length ≤ 10000000000 := by omega
              have hs1 : (0 : Int) ≤ (nb.size : Int) + 1 := by omega
              have hs2 : (nb.size : Int) + 1 ≤ p.size := by have := HSL.out.1; omega
              have hws : IntKind.i64.wrap ((nb.size : Int) + 1) = (nb.size : Int) + 1 := IntWalk.i64_in _ (by omega)
              have hex := HSL.out.2
              have hto : ((nb.size : Int) + 1).toNat = nb.size + 1 := by omega
              generalize mkB (after 61 p.data.toList) = tx at *
              clear hb3 HCY HXC HF2 HG1 cy d0
              go_wp2
              go_region_law (first
                | (refine stepG rfl _ _ rfl (HOW.out _) (HSZ.out _) hgl2 ⟨nm, tx, (t : Int)⟩ rfl rfl (by simp) ?_; intro g4 cap4 w4 h1 h2; have HO4 := Lib.hid (HPU.out _ _ _ _ h1 h2); clear h1 h2))
              all_goals
                go_wp2
                exact ⟨⟨_, t + 1, _, rfl, by go_num, by omega, by simp; omega, HO4, HRR⟩, by simp [intOf]; omega⟩
            · have hnf : (gr.toList == nb.toList) = false := by simpa using heq
              have HL2 := Lib.hid (HFN.out hnf)
              clear HFD HFN HL heq HRd
              obtain ⟨pt, hpt⟩ : ∃ pt, mkB (upTo 46 nm.data.toList) = pt := ⟨_, rfl⟩
              have hpd : pt.data.toList = upTo 46 nm.data.toList := by rw [← hpt, mkB_data]
              have hpz : pt.size ≤ 4294967280 := by
                have h2 : (upTo 46 nm.data.toList).length ≤ nm.data.toList.length := (List.takeWhile_sublist _).length_le
                have h3 : nm.data.toList.length = nm.size := by simp
                have h4 : pt.data.toList.length = pt.size := by simp
                rw [← hpd] at h2
                omega
              obtain ⟨gp, hgp⟩ : ∃ gp, mkB (calledL pt.data.toList) = gp := ⟨_, rfl⟩
              have hgd : gp.data.toList = calledL (upTo 46 nm.data.toList) := by rw [← hgp, mkB_data, hpd]
              have hgz : gp.size ≤ 4294967280 := by
                rw [← hgp, mkBsz, called_len]
                have h4 : pt.data.toList.length = pt.size := by simp
                omega
              have HG2 : Hid (∀ W : World, Calls Tryz.prog 42 #[.string pt] W fun e w' => e = .returned (.string gp) ∧ Below W.heap.size W w') := Lib.hid fun W => by
                have := HGR.out pt W hpz
                rw [hgp] at this
                exact this
              have HBE : Hid (∀ W : World, Calls Tryz.prog 48 #[.string nb, .string (gp ++ (⟨#[95]⟩ : ByteArray))] W fun e w' => e = .returned (.bool (likeK nb.data.toList nm)) ∧ W = w') := Lib.hid fun W => by
                have z1 : (⟨#[95]⟩ : ByteArray).size = 1 := rfl
                have := HBG.out nb (gp ++ (⟨#[95]⟩ : ByteArray)) W hnz (by rw [ByteArray.size_append]; omega)
                rw [begins_is hna nb.data.toList (gp ++ (⟨#[95]⟩ : ByteArray)) (by rw [show (gp ++ (⟨#[95]⟩ : ByteArray)).data.toList = gp.data.toList ++ [95] by simp, hgd])] at this
                exact this
              have hcz : ¬ 9223372036854775807 < gp.size + 1 := by omega
              rw [hpt] at HF2
              clear hpt hpd hgp hgd hpz hna HGR HBG
              cases hll : likeN (ns.take j) nb.data.toList with
              | true =>
                rw [hll, Bool.true_or] at hlk
                clear HG2 HBE
                go_wp2_with fail
                refine (HF2.out _).mono ?_
                rintro e w3 ⟨rfl, rfl⟩
                go_wp2_with fail
                refine (HG1.out _).mono ?_
                rintro e w3 ⟨rfl, hb3⟩
                have HO3 := Lib.hid (HO.out.after hb3)
                clear hb3 cy HG1 HF2
                go_wp2
                go_roundw
                case rel => exact ⟨_, j + 1, rfl, rfl, rfl, by rw [hlk], by go_num, by omega, HL2, HO3⟩
                case measure => simp [intOf]; omega
              | false =>
                rw [hll, Bool.false_or] at hlk
                go_wp2_with fail
                refine (HF2.out _).mono ?_
                rintro e w3 ⟨rfl, rfl⟩
                go_wp2_with fail
                refine (HG1.out _).mono ?_
                rintro e w3 ⟨rfl, hb3⟩
                have HO3 := Lib.hid (HO.out.after hb3)
                clear hb3 cy HG1 HF2
                go_wp2_with fail
                refine (HG2.out _).mono ?_
                rintro e w4 ⟨rfl, hb4⟩
                have HO4 := Lib.hid (HO3.out.after hb4)
                clear hb4 HG2 HO3
                go_wp2_with fail
                refine (HBE.out _).mono ?_
                rintro e w5 ⟨rfl, rfl⟩
                go_wp2
                go_roundw
                case rel => exact ⟨_, j + 1, rfl, rfl, rfl, by rw [hlk], by go_num, by omega, HL2, HO4⟩
                case measure => simp [intOf]; omega
          · obtain rfl : j = m := by omega
            have hnn : ns.take j = ns := List.take_of_length_le (by rw [HMN.out]; exact Nat.le_refl _)
            have hf := HL.out
            rw [hnn] at hf ⊢
            have hE := pairE_like HK1.out (by rw [HNB.out, ← Lib.toList_data]; exact k2) (by rw [HNB.out]; exact hf)
            rw [HNB.out] at hE
            have q4 : ¬ (j : Int) < j := by omega
            have hRd := HRd.out
            clear hf hnn HL HRd
            cases hll : likeN ns nb.data.toList with
            | true =>
              rw [hll] at hE
              rw [hE.1, if_pos rfl, if_neg (by decide)] at hRd
              have HRR := Lib.hid hRd
              clear hE hRd
              go_wp2
              go_ret3
              rw [← HRR.out]
              exact envres_err _ _ HO.out.below
            | false =>
              rw [hll] at hE
              rw [hE.1, hE.2, List.append_nil] at hRd
              simp only [Bool.false_eq_true, if_false, if_true] at hRd
              have HRR := Lib.hid hRd
              clear hE hRd
              go_wp2
              go_roundw
              case rel => exact ⟨_, t + 1, gs, rfl, by go_num, by omega, by omega, HO, HRR⟩
              case measure => simp [intOf]; omega
    · have hte : t = n := by omega
      subst hte
      have q2 : ¬ (t : Int) < t := by omega
      have hRd := HR.out
      rw [List.drop_eq_nil_of_le (by rw [HPN.out]; exact Nat.le_refl _), envGo] at hRd
      have HRR := Lib.hid hRd
      clear hRd
      go_wp2
      go_ret3
      rw [← HRR.out]
      exact ⟨_, rfl, HO.out⟩
end Go.Proofs.YtbgoooljkdjjhaaGreatDoor
