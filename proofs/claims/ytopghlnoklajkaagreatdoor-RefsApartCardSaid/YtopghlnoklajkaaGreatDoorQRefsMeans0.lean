/-
  RefsMeans0.
-/
import Derived.Test.YtopghlnoklajkaaGreatDoorQRefsLaw0
import Derived.Test.YtopghlnoklajkaaGreatDoorQRefsExpd
import Derived.Test.YtopghlnoklajkaaGreatDoorQRefsBoth
import Derived.Test.YtopghlnoklajkaaGreatDoorQRefsLaw1
import Derived.Test.YtopghlnoklajkaaGreatDoorQRefsLaw2
namespace Go.Proofs.YtopghlnoklajkaaGreatDoor
open Go.ChangeShapes Go.WideShapes Go.ChangeAt Go.RowKit

/-- A setting with another text. -/
def txtM (m : SetM) (t : ByteArray) : SetM := ⟨⟨m.x.name, ⟨m.x.val.kind, m.x.val.int, t, m.x.val.words⟩, m.x.from_⟩, m.a, m.c⟩
theorem sFlat_text (ms : List SetM) (k : Nat) (hk : k < ms.length) (t : ByteArray) : (sFlat ms).set (k * 6 + 3) (.string t) = sFlat (ms.set k (txtM ms[k] t)) := by
  have hs := sFlat_len ms
  have hs2 := sFlat_len (ms.set k (txtM ms[k] t))
  rw [List.length_set] at hs2
  apply List.ext_getElem?
  intro j
  by_cases hj : j < ms.length * 6
  · obtain ⟨q, r, hq, hr⟩ : ∃ q r, j = q * 6 + r ∧ r < 6 := ⟨j / 6, j % 6, by omega, by omega⟩
    subst hq
    have hql : q < ms.length := by omega
    rw [sFlat_at _ q (by rw [List.length_set]; exact hql) r hr]
    by_cases hqk : q = k
    · subst hqk
      rw [List.getElem_set_self]
      have h6 : r = 0 ∨ r = 1 ∨ r = 2 ∨ r = 3 ∨ r = 4 ∨ r = 5 := by omega
      rcases h6 with rfl | rfl | rfl | rfl | rfl | rfl
      · rw [List.getElem?_set_ne (by omega), sFlat_at ms q hql 0 (by decide)]; rfl
      · rw [List.getElem?_set_ne (by omega), sFlat_at ms q hql 1 (by decide)]; rfl
      · rw [List.getElem?_set_ne (by omega), sFlat_at ms q hql 2 (by decide)]; rfl
      · rw [List.getElem?_set_self (by omega)]; rfl
      · rw [List.getElem?_set_ne (by omega), sFlat_at ms q hql 4 (by decide)]; rfl
      · rw [List.getElem?_set_ne (by omega), sFlat_at ms q hql 5 (by decide)]; rfl
    · rw [List.getElem?_set_ne (by omega), sFlat_at ms q hql r hr, List.getElem_set_ne (fun e => hqk e.symm)]
  · rw [List.getElem?_eq_none (by simp only [List.length_set]; omega), List.getElem?_eq_none (by omega)]
theorem SetsAt.text {B g n c : Nat} {w : World} {ms : List SetM} (h : SetsAt B w (.slice (some ⟨g, 0, none⟩) n c) ms) (hn : ms.length = n) {k : Nat} (hk : k < ms.length) (t : ByteArray) :
    (∃ u, w.cell? ⟨g, k * 6 + 3, none⟩ = some u) ∧ w.frozen? ⟨g, k * 6 + 3, none⟩ = false ∧ SetsAt B (w.setCell ⟨g, k * 6 + 3, none⟩ (.string t)) (.slice (some ⟨g, 0, none⟩) n c) (ms.set k (txtM ms[k] t)) ∧ But g w (w.setCell ⟨g, k * 6 + 3, none⟩ (.string t)) := by
  subst hn
  have hl := sFlat_len ms
  have hc := h.row.cellAt (k * 6 + 3) (by omega)
  have hg := setGrown w g (k * 6 + 3) (.string t)
  refine ⟨⟨_, hc.trans (List.getElem?_eq_getElem (by omega))⟩, h.row.frozenAt _, ⟨?_, fun m hm => ?_⟩, (But.refl g w).setCell _ _⟩
  · have h1 := (h.row.stored (k * 6 + 3) (.string t)).1
    rw [sFlat_text ms k hk t] at h1
    rw [List.length_set]
    exact h1
  · rcases List.mem_or_eq_of_mem_set hm with hm | rfl
    · have h0 := h.wds m hm
      exact ⟨h0.grownTx hg, h0.2.1, h0.2.2⟩
    · have h0 := h.wds _ (List.getElem_mem hk)
      exact ⟨h0.grownTx hg, h0.2.1, h0.2.2⟩
/-- What the weight bounds. -/
theorem weigh_small {ls : List KeyV} {ps : List PutV} (h : capR (wKR ls + wPR ps) ≤ 2147483647) : ls.length ≤ 2147483647 ∧ ps.length ≤ 2147483647 ∧ (∀ l ∈ ls, l.name.size ≤ 2147483647 ∧ l.dflt.size ≤ 2147483647 ∧ l.letter.size ≤ 2147483647) ∧ ∀ p ∈ ps, p.text.size ≤ 2147483647 := by
  unfold capR at h
  have h1 : wKR ls + wPR ps ≤ 2147483647 := by omega
  have h2 : ls.length * 1 ≤ wKR ls := len_sum (f := wKeyR) ls fun l _ => by unfold wKeyR; omega
  have h3 : ps.length * 1 ≤ wPR ps := len_sum (f := fun p : PutV => 300 + p.text.size) ps fun p _ => by omega
  refine ⟨by omega, by omega, fun l hl => ?_, fun p hp => ?_⟩
  · have : wKeyR l ≤ wKR ls := sum_mem (f := wKeyR) hl
    unfold wKeyR at this
    omega
  · have : 300 + p.text.size ≤ wPR ps := sum_mem (f := fun p : PutV => 300 + p.text.size) hp
    omega
/-- While texts are put in place. -/
def MeanAt (ms : List SetM) (k : Nat) (ls : List SetM) : Prop := ls.length = ms.length ∧ ∀ j (h1 : j < ls.length) (h2 : j < ms.length), ls[j].x = if j < k then expS ms j ms[j].x else ms[j].x
theorem MeanAt.next {ms ls : List SetM} {k : Nat} (h : MeanAt ms k ls) (hk : k < ms.length) (he : expS ms k ms[k].x = ms[k].x) : MeanAt ms (k + 1) ls := by
  refine ⟨h.1, fun j a b => ?_⟩
  rw [h.2 j a b]
  by_cases e : j < k
  · rw [if_pos e, if_pos (by omega)]
  · rw [if_neg e]
    by_cases e2 : j = k
    · subst e2; rw [if_pos (by omega), he]
    · rw [if_neg (by omega)]
theorem MeanAt.put {ms ls : List SetM} {k : Nat} (h : MeanAt ms k ls) (hk : k < ms.length) (hk2 : k < ls.length) (hr : rightV ms[k].x.val = true) (h5 : ms[k].x.val.kind = 5) : MeanAt ms (k + 1) (ls.set k (txtM ls[k] (mkB (Ex ms k)))) := by
  refine ⟨by rw [List.length_set]; exact h.1, fun j a b => ?_⟩
  rw [List.length_set] at a
  rw [List.getElem_set]
  split
  · rename_i e
    subst e
    rw [if_pos (by omega), ← expS_text hr h5]
    have := h.2 k hk2 hk
    rw [if_neg (by omega)] at this
    unfold txtM
    simp only
    rw [this]
  · rename_i e
    rw [h.2 j a b]
    by_cases e1 : j < k
    · rw [if_pos e1, if_pos (by omega)]
    · rw [if_neg e1, if_neg (by omega)]
theorem MeanAt.all {ms ms' ls : List SetM} {k : Nat} (h : MeanAt ms k ls) (hk : ms.length ≤ k) (hl : ms'.length = ms.length) (hx : ∀ j (h1 : j < ms'.length) (h2 : j < ms.length), ms'[j].x = expS ms j ms[j].x) : ls.map (·.x) = ms'.map (·.x) := by
  refine List.ext_getElem (by simp [h.1, hl]) fun j a b => ?_
  rw [List.getElem_map, List.getElem_map, h.2 j (by simpa using a) (by rw [← h.1]; simpa using a), if_pos (by have h3 : j < ls.length := (by simpa using a); have := h.1; omega), hx j (by simpa using b) (by rw [← hl]; simpa using b)]
theorem MeanAt.start {ms ls : List SetM} (h : ls.map (·.x) = ms.map (·.x)) : MeanAt ms 0 ls := by
  have hl := len_of_same h
  exact ⟨hl, fun j a b => by rw [if_neg (by omega)]; exact map_at h j a b⟩
/-- What stands in the loop of RefsMeans. -/
structure MnIn (w wr : World) (F : Nat → Prop) (B : Nat) (wv : Value) (X : Nat) (dx : Option Addr) (dc : Nat) (hx : Option Addr) (hc : Nat) (ks : List KeyV) (ms ms' : List SetM) (B2 : Nat) (nv : Value) (zs : List SetM) (k : Nat) (ls : List SetM) : Prop where
  lay : LayAt F wr X dx dc hx hc ks ms'
  was : SetsAt B wr wv ls
  now : SetsAt B2 wr nv zs
  mean : MeanAt ms k ls
  below : Below w.heap.size w wr
theorem MnIn.after {w wr W : World} {F : Nat → Prop} {wv nv : Value} {B X dc hc B2 k : Nat} {dx hx : Option Addr} {ks : List KeyV} {ms ms' zs ls : List SetM} (h : MnIn w wr F B wv X dx dc hx hc ks ms ms' B2 nv zs k ls) (hb : Below wr.heap.size wr W) : MnIn w W F B wv X dx dc hx hc ks ms ms' B2 nv zs k ls :=
  ⟨h.lay.below hb, h.was.below hb, h.now.below hb, h.mean, h.below.trans (hb.mono h.below.size)⟩
/-- Where the first list lies: apart from all else. -/
structure ApartR (w : World) (F : Nat → Prop) (wv nv : Value) (X B2 : Nat) (zs : List SetM) : Prop where
  f : ∀ g, wv.ownBlock = some g → ¬ F g ∧ nv.ownBlock ≠ some g ∧ w.heap.size ≤ g ∧ g < B2
  new : NewW B2 zs
/-- A text is put in its place. -/
theorem MnIn.put {w wr : World} {F : Nat → Prop} {nv : Value} {B X dc hc B2 k g n c : Nat} {dx hx : Option Addr} {ks : List KeyV} {ms ms' zs ls : List SetM} (h : MnIn w wr F B (.slice (some ⟨g, 0, none⟩) n c) X dx dc hx hc ks ms ms' B2 nv zs k ls) (ha : ApartR w F (.slice (some ⟨g, 0, none⟩) n c) nv X B2 zs) (hn : ls.length = n) (hk : k < ms.length) (hr : rightV ms[k].x.val = true) (h5 : ms[k].x.val.kind = 5) :
    (∃ u, wr.cell? ⟨g, k * 6 + 3, none⟩ = some u) ∧ wr.frozen? ⟨g, k * 6 + 3, none⟩ = false ∧ ∃ ls', MnIn w (wr.setCell ⟨g, k * 6 + 3, none⟩ (.string (mkB (Ex ms k)))) F B (.slice (some ⟨g, 0, none⟩) n c) X dx dc hx hc ks ms ms' B2 nv zs (k + 1) ls' := by
  have hk2 : k < ls.length := by rw [h.mean.1]; exact hk
  obtain ⟨h1, h2, h3, h4⟩ := h.was.text hn hk2 (mkB (Ex ms k))
  obtain ⟨a1, a2, a3, a4⟩ := ha.f g rfl
  have hgX : g ≠ X := by
    rintro rfl
    exact own_ne h.was.row h.lay.obj (by decide) rfl
  exact ⟨h1, h2, _, h.lay.but h4 hgX a1, h3, h.now.set a2 (fun m hm b off hp e => by have := ha.new m hm b off hp e; omega) _ _, h.mean.put hk hk2 hr h5, h.below.setCell (p := ⟨g, _, none⟩) a3 _⟩
theorem namesB_ok {s : List UInt8} {l : List PcB} (h : piecesB s = some l) : (namesB s).2 = 0 := by unfold namesB; rw [h]
set_option maxHeartbeats 12800000 in
set_option maxRecDepth 100000 in
theorem refsMeans_any (xk yp : Option Addr) (ck cp : Nat) (ls : List KeyV) (ps : List PutV) (w : World) (hK : KeysAt w xk ls) (hn : ls.length ≤ maxLen) (hz : ∀ l ∈ ls, l.name.size ≤ maxLen ∧ l.dflt.size ≤ maxLen ∧ l.letter.size ≤ maxLen)
    (hP : PutsAt w yp ps) (hpn : ps.length ≤ maxLen) (hpz : ∀ p ∈ ps, p.text.size ≤ maxLen) (hpb : ∀ p ∈ ps, (-9223372036854775808 ≤ p.at_ ∧ p.at_ ≤ 9223372036854775807) ∧ (-9223372036854775808 ≤ p.from_ ∧ p.from_ ≤ 9223372036854775807)) (hS : Std w) :
    Calls Tryz.prog 5 #[.slice xk ls.length ck, .slice yp ps.length cp] w fun e w' => e = .returned (.bool true) ∧ Below w.heap.size w w' := by
  have HWG := Lib.hid (rweight_any xk yp ck cp ls ps w hK hn hz hP hpn hpz)
  have HSB : Hid (∀ W, Below w.heap.size w W → Std W) := Lib.hid fun W hb => hS.below hb
  have HBO : Hid (capR (wKR ls + wPR ps) ≤ 2147483647 → ∀ W, Below w.heap.size w W → Calls Tryz.prog 13 #[.slice xk ls.length ck, .slice yp ps.length cp] W (BothRes W)) := Lib.hid fun h W hb => by
    obtain ⟨a, b, c, d⟩ := weigh_small h
    exact both_any xk yp ck cp ls ps W (hK.below hb) (by omega) c (hP.below hb) (by omega) (fun p hp => ⟨d p hp, hpb p hp⟩) (hS.below hb)
  obtain ⟨nl, hnl⟩ : ∃ n, ls.length = n := ⟨_, rfl⟩
  obtain ⟨np, hnp⟩ : ∃ n, ps.length = n := ⟨_, rfl⟩
  rw [hnl, hnp] at HWG HBO ⊢
  generalize capR (wKR ls + wPR ps) = U at HWG HBO
  clear hK hn hz hP hpn hpz hpb hS hnl hnp
  go_enter Tryz.func5, Tryz.ntmps5
  go_wp2_with fail
  refine HWG.out.mono ?_
  rintro e w1 ⟨rfl, hb1⟩
  have HB1 := Lib.hid hb1
  clear hb1 HWG
  by_cases hb : 2147483647 < U
  · go_wp2
    go_ret
    exact ⟨rfl, HB1.out⟩
  · have hBO := HBO.out (by omega)
    have HBO2 := Lib.hid hBO
    have hAW := rawake_any w1 (HSB.out _ HB1.out)
    clear HBO hBO
    go_wp2_with fail
    refine hAW.mono ?_
    rintro e w2 ⟨rfl, hb2⟩
    have HB2 := Lib.hid (HB1.out.trans (hb2.mono HB1.out.size))
    have hBO := HBO2.out w2 HB2.out
    clear hb2 hAW HBO2
    go_wp2_with fail
    refine hBO.mono ?_
    rintro e w3 ⟨B, F, X, Y, dx, dc, hx, hc, ks, ms, yk, ck2, lv, ns, rfl, hG, hBB, hbo⟩
    have HB3 := Lib.hid (HB2.out.trans (hbo.below.mono HB2.out.size))
    have HXN : Hid (w.heap.size ≤ X) := Lib.hid (Nat.le_trans HB2.out.size hbo.newX)
    have HLA := Lib.hid hbo.a
    have HOK := Lib.hid (And.intro hbo.ok (And.intro (made_ms hG hbo.ok) hG.sorted))
    obtain ⟨n, hn⟩ : ∃ n, ms.length = n := ⟨_, rfl⟩
    have HN := Lib.hid hn
    have hAL := lall_any F X w3 dx hx dc hc ks ms hbo.a hbo.ok HOK.out.2.1.few
    clear hG hBB hbo hBO hn HB2
    go_wp2_with fail
    refine hAL.mono ?_
    rintro e w4 ⟨v4, l4, rfl, hl4, hs4, hb4⟩
    obtain ⟨x4, c4, hv4⟩ := hs4.form
    rw [len_of_same hl4, HN.out] at hv4
    have HB4 := Lib.hid (HB3.out.trans (hb4.mono HB3.out.size))
    have HL4 := Lib.hid hl4
    have HS4 := Lib.hid hs4
    have HLA4 := Lib.hid (HLA.out.below hb4)
    have HF4 : Hid (∀ g, v4.ownBlock = some g → w3.heap.size ≤ g ∧ g < w4.heap.size) := Lib.hid fun g hg => hs4.row.lt g hg
    have hXP := expand_any F X w4 dx hx dc hc ks ms n HLA4.out HOK.out.1 HOK.out.2.2 HN.out HOK.out.2.1 (HSB.out _ HB4.out)
    subst hv4
    clear hl4 hs4 hb4 hAL
    go_wp2_with fail
    refine hXP.mono ?_
    rintro e w5 hx5
    clear hXP
    unfold XpRes at hx5
    cases hw : wrongE ms with
    | some p =>
      obtain ⟨E, k⟩ := p
      rw [hw] at hx5
      obtain ⟨rfl, hb5⟩ := hx5
      have hE := wrong_is hw
      have HB5 := Lib.hid (HB4.out.trans (hb5.mono HB4.out.size))
      have hAL := lall_any F X w5 dx hx dc hc ks ms (HLA4.out.below hb5) HOK.out.1 HOK.out.2.1.few
      have HS5 := Lib.hid (HS4.out.below hb5)
      clear hw hb5 HF4 HLA4 HS4 HLA HB4 HB3
      generalize nameAt ms k = nk
      go_wp2_with fail
      refine hAL.mono ?_
      rintro e w6 ⟨v6, l6, rfl, hl6, hs6, hb6⟩
      obtain ⟨x6, c6, hv6⟩ := hs6.form
      rw [len_of_same hl6, HN.out] at hv6
      subst hv6
      have HB6 := Lib.hid (HB5.out.trans (hb6.mono HB5.out.size))
      have hST := rsettings_any l4 l6 _ _ n x4 x6 c4 c6 w6 (HS5.out.below hb6) hs6 (by rw [HL4.out, hl6]) (by rw [len_of_same HL4.out]; exact HN.out) (by rw [← HN.out]; exact HOK.out.2.1.few) (fun m hm => by
        have : m.x ∈ ms.map (·.x) := by rw [← hl6]; exact List.mem_map_of_mem hm
        obtain ⟨m2, h2, e⟩ := List.mem_map.1 this
        rw [← e]; exact HOK.out.2.1.right m2 h2)
      have q1 : ¬ E = 0 := by omega
      clear hl6 hs6 hb6 hAL HS5 HB5
      go_wp2_with fail
      refine hST.mono ?_
      rintro e w7 ⟨rfl, hb7⟩
      have HB7 := Lib.hid (HB6.out.trans (hb7.mono HB6.out.size))
      have q2 : (100 : Int) ≤ E := hE.1
      have q3 : E ≤ (103 : Int) := hE.2
      clear hb7 hST
      go_wp2
      go_ret
      exact ⟨by first | rfl | simp, HB7.out⟩
    | none =>
      rw [hw] at hx5
      obtain ⟨rfl, hb5, F5, hx', hc', ms', hF5, hLA5, hok5, hl5, hx5⟩ := hx5
      have HW := Lib.hid hw
      have HB5 : Hid (Below w.heap.size w w5) := Lib.hid (HB4.out.trans (hb5.below HXN.out HB4.out.size))
      have HS5 := Lib.hid (HS4.out.butX HLA4.out.obj (by decide) hb5)
      have HX5 := Lib.hid (And.intro hok5 (And.intro hl5 hx5))
      have HLA5 := Lib.hid hLA5
      have HF5 : Hid (∀ g, (Value.slice x4 n c4).ownBlock = some g → ¬ F5 g ∧ w.heap.size ≤ g ∧ g < w5.heap.size) := Lib.hid fun g hg => by
        obtain ⟨h1, h2⟩ := HF4.out g hg
        refine ⟨fun hf => ?_, Nat.le_trans HB3.out.size h1, Nat.lt_of_lt_of_le h2 hb5.2.2.2.1⟩
        rcases hF5 g hf with h3 | h3
        · have := HLA.out.lt g h3; omega
        · omega
      have hAL := lall2_any F5 X w5 dx hx' dc hc' ks ms' hLA5 hok5 (by rw [hl5]; exact HOK.out.2.1.few)
      clear hw hb5 hF5 hLA5 hok5 hl5 hx5 HS4 HF4 HLA4 HLA HB4 HB3 HXN
      go_wp2_with fail
      refine hAL.mono ?_
      rintro e w6 ⟨v6, zs, rfl, hl6, hs6, hb6, hnw6⟩
      obtain ⟨x6, c6, hv6⟩ := hs6.form
      rw [len_of_same hl6, HX5.out.2.1, HN.out] at hv6
      subst hv6
      have HL6 := Lib.hid hl6
      have HAP : Hid (ApartR w F5 (.slice x4 n c4) (.slice x6 n c6) X w5.heap.size zs) := Lib.hid ⟨fun g hg => ⟨(HF5.out g hg).1, fun e => (by have := (hs6.row.lt g e).1; have := (HF5.out g hg).2.2; omega), (HF5.out g hg).2.1, (HF5.out g hg).2.2⟩, hnw6⟩
      have HI0 : Hid (∃ ls, MnIn w w6 F5 w3.heap.size (.slice x4 n c4) X dx dc hx' hc' ks ms ms' w5.heap.size (.slice x6 n c6) zs 0 ls) := Lib.hid ⟨l4, HLA5.out.below hb6, HS5.out.below hb6, hs6, MeanAt.start HL4.out, HB5.out.trans (hb6.mono HB5.out.size)⟩
      have d1 : ((n : Int) != (n : Int)) = false := by simp
      have hn1 : n ≤ 1000 := by rw [← HN.out]; exact HOK.out.2.1.few
      clear hl6 hs6 hb6 hnw6 hAL HF5 HS5 HLA5 HB5 HL4
      generalize w5.heap.size = B5 at *
      generalize w3.heap.size = B3 at *
      go_wp2
      go_loopw [14] (fun i wr => ∃ k : Nat, i = .int .i64 k ∧ k ≤ n ∧ Hid (∃ ls, MnIn w wr F5 B3 (.slice x4 n c4) X dx dc hx' hc' ks ms ms' B5 (.slice x6 n c6) zs k ls)) (fun i _ => n - (intOf i).toNat)
      case atStart => exact ⟨0, rfl, by omega, HI0⟩
      case round =>
        clear HI0
        obtain ⟨k, rfl, hk, HI⟩ := hrel
        obtain ⟨lk, hI⟩ := HI.out
        have HI2 := Lib.hid hI
        clear HI hI
        by_cases hlt : k < n
        · have q1 : (0 : Int) ≤ k := by omega
          have q2 : (k : Int) < n := by omega
          have hkm : k < ms.length := by rw [HN.out]; exact hlt
          have hkl : k < lk.length := by rw [HI2.out.mean.1]; exact hkm
          have hll : lk.length = n := by rw [HI2.out.mean.1]; exact HN.out
          obtain ⟨b, c, hbe, hbl, hcs⟩ := HI2.out.was.cells hkl
          injection hbe with hbe hx1 hx2
          have hmx : lk[k].x = ms[k].x := by
            have := HI2.out.mean.2 k hkl hkm
            rwa [if_neg (by omega)] at this
          have e1 := hcs 1 (by decide)
          have e3 := hcs 3 (by decide)
          have hR := HOK.out.2.1.right _ (List.getElem_mem hkm)
          have HR := Lib.hid hR
          replace e1 : wr.cell? ⟨b, k * 6 + 1, none⟩ = some (.int .i64 ms[k].x.val.kind) := by rw [← hmx]; exact e1
          replace e3 : wr.cell? ⟨b, k * 6 + 3, none⟩ = some (.string ms[k].x.val.text) := by rw [← hmx]; exact e3
          subst hbe
          clear hcs hx1 hx2 hmx hkl
          by_cases h5 : ms[k].x.val.kind = 5
          · have htx : Tx ms k = ms[k].x.val.text.data.toList := by
              rw [Tx_at hkm]
              unfold printR
              rw [if_pos hR]
              show printV ms[k].x.val = _
              unfold printV
              rw [h5, if_neg (by decide), if_neg (by decide), if_neg (by decide), if_pos rfl]
            have hpc : piecesB ms[k].x.val.text.data.toList = some (Px ms k) := by
              rw [← htx]
              exact formed (wrong_none HW.out).1 k hkm
            have hsz := (right_bounds hR).2.2
            have HNX := Lib.hid (HI2.out.put HAP.out hll hkm hR h5)
            have HNM := Lib.hid (rnames_any ms[k].x.val.text wr (by omega) (HSB.out _ HI2.out.below).maxI (HSB.out _ HI2.out.below).tab)
            have hms' : namesM ms' = namesM ms := names_exp HX5.out.2.1 HX5.out.2.2
            have HEX : Hid (∀ W, Below wr.heap.size wr W → Calls Tryz.prog 20 #[.pointer (some ⟨X, 0, none⟩), .string ms[k].x.val.text] W fun e w' => e = .returned (.string (mkB (Ex ms k))) ∧ Below W.heap.size W w') := Lib.hid fun W hb => by
              have h1 := expanded_any F5 X W dx hx' dc hc' ks ms' (HI2.out.after hb).lay HX5.out.1 HOK.out.2.2 (by rw [hms']; exact HOK.out.2.1.dis) (by rw [HX5.out.2.1]; exact HOK.out.2.1.few) ms[k].x.val.text hsz (Px ms k) hpc (fun p hp hr => by
                rw [hms']
                cases hpl : plO (namesM ms) p.1 with
                | none =>
                  exfalso
                  obtain ⟨q, h2, h3⟩ := placed (wrong_none HW.out).2 k hkm p.1 ((mem_namesL _ _).2 ⟨p, hp, hr, rfl⟩)
                  rw [hpl] at h2; cases h2
                | some j => exact ⟨j, rfl, by rw [HX5.out.2.1]; exact inside (wrong_none HW.out).2 k hkm j (mem_scP hp hr hpl)⟩) (HSB.out _ (HI2.out.after hb).below)
              unfold flatS at h1
              rw [hms', mean_is HW.out HOK.out.2.1.right HX5.out.1.right HX5.out.2.1 HX5.out.2.2 hkm] at h1
              exact h1
            have hnz := namesB_ok hpc
            unfold NmRes at HNM
            rw [hnz] at HNM
            clear htx hpc hsz hnz hms' hR HR
            rw [h5] at e1
            generalize ms[k].x.val.text = tx at *
            go_wp2_with fail
            refine HNM.out.mono ?_
            rintro e w8 ⟨v8, rfl, _, hb8⟩
            have HI8 := Lib.hid (HI2.out.after hb8)
            have HEX8 := HEX.out w8 hb8
            have e3' : w8.cell? ⟨b, k * 6 + 3, none⟩ = some (.string tx) := (hb8.cell (p := ⟨b, _, none⟩) hbl).trans e3
            clear HNM HEX hb8
            go_wp2_with fail
            refine HEX8.mono ?_
            rintro e w9 ⟨rfl, hb9⟩
            have HI9 := Lib.hid (HI8.out.after hb9)
            have e3n : w9.cell? ⟨b, k * 6 + 3, none⟩ = some (.string tx) := (hb9.cell (p := ⟨b, _, none⟩) (lt_of_cell e3')).trans e3'
            obtain ⟨⟨u0, g0⟩, f0, lsn, hmn⟩ := HI9.out.put HAP.out hll hkm (HOK.out.2.1.right _ (List.getElem_mem hkm)) h5
            have HMN := Lib.hid hmn
            clear hmn hb9 HEX8 e3' e3 e1 HI8 HI9 e3n HNX
            generalize Ex ms k = ex at *
            clear h5 hkm hll
            go_wp2
            go_roundw
            case rel => exact ⟨k + 1, by go_num, by omega, Lib.hid ⟨_, HMN.out⟩⟩
            case measure => simp [intOf]; omega
          · have HNX : Hid (∃ ls, MnIn w wr F5 B3 (.slice (some ⟨b, 0, none⟩) n c4) X dx dc hx' hc' ks ms ms' B5 (.slice x6 n c6) zs (k + 1) ls) := Lib.hid ⟨lk, HI2.out.lay, HI2.out.was, HI2.out.now, HI2.out.mean.next hkm (by unfold expS; rw [if_neg h5]), HI2.out.below⟩
            generalize ms[k].x.val.kind = kd at e1 h5
            clear hR HR e3 HI2 hkm
            go_wp2
            go_roundw
            case rel => exact ⟨k + 1, by go_num, by omega, HNX⟩
            case measure => simp [intOf]; omega
        · have q2 : ¬ (k : Int) < n := by omega
          have hST := rsettings_any lk zs _ _ n x4 x6 c4 c6 wr HI2.out.was HI2.out.now (by rw [HL6.out]; exact HI2.out.mean.all (by rw [HN.out]; omega) HX5.out.2.1 HX5.out.2.2) (by rw [HI2.out.mean.1]; exact HN.out) (by rw [← HN.out]; exact HOK.out.2.1.few) (fun m hm => by
            have : m.x ∈ ms'.map (·.x) := by rw [← HL6.out]; exact List.mem_map_of_mem hm
            obtain ⟨m2, h2, e⟩ := List.mem_map.1 this
            rw [← e]; exact HX5.out.1.right m2 h2)
          have HB := Lib.hid HI2.out.below
          clear HI2 HAP
          go_wp2_with fail
          refine hST.mono ?_
          rintro e w7 ⟨rfl, hb7⟩
          have HB7 := Lib.hid (HB.out.trans (hb7.mono HB.out.size))
          clear hb7 hST HB
          go_wp2
          go_ret
          exact ⟨rfl, HB7.out⟩
end Go.Proofs.YtopghlnoklajkaaGreatDoor
