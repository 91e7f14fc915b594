/-
  LayPut, LayGet.
-/
import Derived.Test.YtlcgfdijohgnpaaGreatDoorQLayPutK
import Derived.Test.YtlcgfdijohgnpaaGreatDoorQRefsSpk
namespace Go.Proofs.YtlcgfdijohgnpaaGreatDoor
open Go.ChangeShapes Go.WideShapes Go.ChangeAt Go.RowKit

theorem namesM_at {ms : List SetM} {i : Nat} (h : i < ms.length) : (namesM ms)[i]'(by unfold namesM; rw [List.length_map]; exact h) = ms[i].x.name := by simp [namesM]
theorem names_len (ms : List SetM) : (namesM ms).length = ms.length := by unfold namesM; rw [List.length_map]
theorem place_found {ks : List KeyV} {ms : List SetM} (hok : LayOk ks ms) (hd : Dis (namesM ms)) {s : ByteArray} {i : Nat} (hi : i < ks.length) (h0 : cmpAt ks s i = 0) : placeN (namesM ms) s = (i : Int) := by
  rw [cmpAt_of hi] at h0
  have e := cmpB_eq h0
  have him : i < ms.length := by rw [hok.len]; exact hi
  have hin : i < (namesM ms).length := by rw [names_len]; exact him
  have e2 : (namesM ms)[i] = s := by rw [namesM_at him, hok.names i him hi]; exact e
  have := place_self hd hin
  rw [e2] at this
  exact this
theorem place_lost {ks : List KeyV} {ms : List SetM} (hok : LayOk ks ms) {s : ByteArray} (h : hasK ks s = false) : placeN (namesM ms) s = -1 := by
  rcases placeN_cases (namesM ms) s with h1 | ⟨j, hj, h1, h2⟩
  · exact h1
  · exfalso
    have hjm : j < ms.length := by rw [← names_len]; exact hj
    have hjk : j < ks.length := by rw [← hok.len]; exact hjm
    have e := eq_of_beq h2
    rw [Lib.toList_data, Lib.toList_data, namesM_at hjm, hok.names j hjm hjk] at e
    have e2 : ks[j].name = s := by rw [← mkB_self ks[j].name, ← mkB_self s, e]
    have := List.any_eq_false.1 h ks[j] (List.getElem_mem hjk)
    simp [e2] at this
def LpRes (F : Nat → Prop) (w : World) (X : Nat) (dx : Option Addr) (dc : Nat) (ks : List KeyV) (ms : List SetM) (s : ByteArray) (v : Val) (fr : Int) (e : Ending) (w' : World) : Prop :=
  ∃ E : Int, e = .returned (.int .i64 E) ∧ ((placeN (namesM ms) s = -1 ∧ E = 90 ∧ Below w.heap.size w w') ∨ ∃ j, ∃ h : j < ms.length, ∃ h2 : j < ks.length, placeN (namesM ms) s = (j : Int) ∧
    ((mayV ks[j] v = false ∧ E = 91 ∧ Below w.heap.size w w') ∨ (mayV ks[j] v = true ∧ ¬ (0 ≤ fr ∧ fr ≤ 5) ∧ E = 1 ∧ Below w.heap.size w w') ∨
     (mayV ks[j] v = true ∧ (0 ≤ fr ∧ fr ≤ 5) ∧ E = 0 ∧ ∃ hx' hc' y d, LayAt (Fn F w.heap.size w'.heap.size) w' X dx dc hx' hc' ks (ms.set j ⟨⟨ms[j].x.name, v, fr⟩, y, d⟩) ∧ But X w w')))
theorem TxAt.offX {w : World} {X : Nat} {x : Option Addr} {ts : List ByteArray} {dx hx : Option Addr} {n m c d : Nat} {t : TypeId} (h : TxAt w x ts) (hX : w.heap[X]? = some (Obj.cells #[.slice dx n c, .slice hx m d] t)) (u : Value) : TxAt (w.setCell ⟨X, 1, none⟩ u) x ts := fun k hk => by
  obtain ⟨b, off, e, hl, hc⟩ := h k hk
  refine ⟨b, off, e, by simpa using hl, ?_⟩
  by_cases hb : b = X
  · subst hb
    exfalso
    rw [cell_of_row w b (off + k) _ _ _ hX] at hc
    have h3 : off + k = 0 ∨ off + k = 1 ∨ 2 ≤ off + k := by omega
    rcases h3 with h3 | h3 | h3
    · rw [h3] at hc; cases hc
    · rw [h3] at hc; cases hc
    · rw [Array.getElem?_eq_none (by simpa using h3)] at hc; cases hc
  · rw [World.cell?_setCell_other _ _ _ _ (fun e2 => hb (by injection e2 with e3 _ _; exact e3.symm))]; exact hc
theorem setX {w : World} {X : Nat} {a b u : Value} {t : TypeId} (h : w.heap[X]? = some (Obj.cells #[a, b] t)) : (w.setCell ⟨X, 1, none⟩ u).heap[X]? = some (Obj.cells #[a, u] t) := by
  simp [World.setCell, Array.getElem?_modify, h]
structure PuIn (F : Nat → Prop) (w W : World) (X : Nat) (dx : Option Addr) (dc : Nat) (hx : Option Addr) (hc : Nat) (ks : List KeyV) (ms : List SetM) (a b c d : Value) : Prop where
  below : Below w.heap.size w W
  box : Box4 W w.heap.size a b c d
theorem PuIn.after {F : Nat → Prop} {w W W' : World} {X : Nat} {dx : Option Addr} {dc : Nat} {hx : Option Addr} {hc : Nat} {ks : List KeyV} {ms : List SetM} {a b c d : Value} (h : PuIn F w W X dx dc hx hc ks ms a b c d) (hb : Below W.heap.size W W') : PuIn F w W' X dx dc hx hc ks ms a b c d := ⟨h.below.trans (hb.mono h.below.size), h.box.below hb⟩
theorem put_fin5 {F : Nat → Prop} {w wd : World} {X : Nat} {dx hx : Option Addr} {dc hc : Nat} {ks : List KeyV} {ms : List SetM} (h : LayAt F w X dx dc hx hc ks ms) {g c' n nw : Nat} {cur : Array Value} {v0 : List ByteArray} (hn : ms.length = n) (hnw : v0.length = nw) (hb : But X w wd) (hX : wd.heap[X]? = some (Obj.cells #[.slice dx ks.length dc, .slice (some ⟨g, 0, none⟩) n c'] 60))
    (hg : w.heap.size ≤ g) (hG : wd.heap[g]? = some (.cells cur 107)) (hcur : ∀ (j : Nat) (v : Value), (hFlat ms)[j]? = some v → cur[j]? = some v) (hc' : ms.length ≤ c') {j : Nat} (hj : j < ms.length) (v : Val) (y : Option Addr) (d : Nat) (fr : Int) {B : Nat} (hB : w.heap.size ≤ B) (hr : wd.ownsRow B 9 1 (.slice y nw d) nw (v.words.map Value.string)) (hv0 : v.words = v0 := by rfl) :
    (LayAt (Fn F w.heap.size wd.heap.size) (((((wd.setCell ⟨g, j * 5, none⟩ (.int .i64 v.kind)).setCell ⟨g, j * 5 + 1, none⟩ (.int .i64 v.int)).setCell ⟨g, j * 5 + 2, none⟩ (.string v.text)).setCell ⟨g, j * 5 + 3, none⟩ (.slice y nw d)).setCell ⟨g, j * 5 + 4, none⟩ (.int .i64 fr)) X dx dc (some ⟨g, 0, none⟩) c' ks (ms.set j ⟨⟨ms[j].x.name, v, fr⟩, y, d⟩) ∧
    But X w (((((wd.setCell ⟨g, j * 5, none⟩ (.int .i64 v.kind)).setCell ⟨g, j * 5 + 1, none⟩ (.int .i64 v.int)).setCell ⟨g, j * 5 + 2, none⟩ (.string v.text)).setCell ⟨g, j * 5 + 3, none⟩ (.slice y nw d)).setCell ⟨g, j * 5 + 4, none⟩ (.int .i64 fr))) ∧
    ((∃ u, wd.cell? ⟨g, j * 5, none⟩ = some u) ∧ (∃ u, wd.cell? ⟨g, j * 5 + 1, none⟩ = some u) ∧ (∃ u, wd.cell? ⟨g, j * 5 + 2, none⟩ = some u) ∧ (∃ u, wd.cell? ⟨g, j * 5 + 3, none⟩ = some u) ∧ (∃ u, wd.cell? ⟨g, j * 5 + 4, none⟩ = some u) ∧ ∀ i, wd.frozen? ⟨g, i, none⟩ = false) := by
  subst hv0 hnw hn
  have hcell : ∀ i, wd.cell? ⟨g, i, none⟩ = cur[i]? := fun i => cell_of_row wd g i _ _ _ hG
  have hfl := hFlat_len ms
  have hsome : ∀ r, r < 5 → ∃ u, wd.cell? ⟨g, j * 5 + r, none⟩ = some u := fun r hr => by
    rw [hcell]
    exact ⟨_, hcur (j * 5 + r) _ (List.getElem?_eq_getElem (by omega))⟩
  exact ⟨put_fin h hb hX hg hG hcur hc' hj v y d fr hB hr, hsome 0 (by decide), hsome 1 (by decide), hsome 2 (by decide), hsome 3 (by decide), hsome 4 (by decide), fun i => by simp [World.frozen?, hG]⟩
set_option maxHeartbeats 6400000 in
set_option maxRecDepth 100000 in
theorem lput_any (F : Nat → Prop) (X : Nat) (w : World) (dx hx : Option Addr) (dc hc : Nat) (ks : List KeyV) (ms : List SetM) (h : LayAt F w X dx dc hx hc ks ms) (hok : LayOk ks ms) (hs : Sorted ks) (hd : Dis (namesM ms)) (hn : ms.length ≤ 1000) (s : ByteArray) (v : Val) (y : Option Addr) (d : Nat) (hv : ArgOk w v y d) (hvl : v.words.length ≤ 4294967280) (hvz : ∀ k (h : k < v.words.length), v.words[k].size ≤ 4294967280) (hvt : v.text.size ≤ 4294967280) (fr : Int) (hT : Tab w) :
    Calls Tryz.prog 24 #[.pointer (some ⟨X, 0, none⟩), .string s, argV v y d, .int .i64 fr] w (LpRes F w X dx dc ks ms s v fr) := by
  have hlen := hok.len
  have HPL : Hid (∀ o, Calls Tryz.prog 25 #[.slice dx ks.length dc, .string s] (w.alloc o) (FoundRes ks s (w.alloc o))) := Lib.hid fun o => lplace_any F ks s dx dc (w.alloc o) (h.below (below_one w o)).defs (hs.mono _) (by omega)
  have HMY : Hid (∀ W, Below w.heap.size w W → ∀ i (hi : i < ks.length), Calls Tryz.prog 48 #[.slice dx ks.length dc, .int .i64 i, argV v y d] W fun e w' => e = .returned (.bool (mayV ks[i] v)) ∧ Below W.heap.size W w') := Lib.hid fun W hb i hi => lmay_any F ks dx ks.length dc i W (h.below hb).defs rfl hi v y d (hv.below hb) (hT.below hb)
  have HCP : Hid (∀ W, TxAt W y v.words → Calls Tryz.prog 50 #[argV v y d] W fun e w' => ∃ y' d', e = .returned (argV v y' d') ∧ w'.ownsRow W.heap.size 9 1 (.slice y' v.words.length d') v.words.length (v.words.map Value.string) ∧ Below W.heap.size W w') := Lib.hid fun W hW => lcopied_any W v y d hW hvl hvz hvt
  have HTX : Hid (∀ W, Below w.heap.size w W → TxAt W y v.words) := Lib.hid fun W hb => TxAt.below hv.list hb
  have HXC : Hid (∀ W, Below w.heap.size w W → W.cell? ⟨X, 0, none⟩ = some (.slice dx ks.length dc) ∧ W.cell? ⟨X, 1, none⟩ = some (.slice hx ms.length hc)) := Lib.hid fun W hb => (h.below hb).cells
  have HP0 : Hid (∀ t, PuIn F w (w.alloc (Obj.cells #[.int .i64 v.kind, .int .i64 v.int, .string v.text, .slice y v.words.length d] t)) X dx dc hx hc ks ms (.int .i64 v.kind) (.int .i64 v.int) (.string v.text) (.slice y v.words.length d)) := Lib.hid fun t => ⟨below_one w _, box4_new w _ _ _ _ t⟩
  have HL := Lib.hid (And.intro h (And.intro hok (And.intro hs hd)))
  have HN2 := Lib.hid hn
  obtain ⟨n, hn'⟩ : ∃ n, ks.length = n := ⟨_, rfl⟩
  have HN := Lib.hid hn'
  obtain ⟨vk, vi, vt, vw⟩ := v
  obtain ⟨nw, hnw⟩ : ∃ nw, vw.length = nw := ⟨_, rfl⟩
  have HNW := Lib.hid hnw
  unfold argV at *
  simp only [hnw] at HMY HCP HP0 ⊢
  rw [hn'] at HPL
  simp only [hn'] at HXC
  clear h hok hs hd hn hv hvl hvz hvt hT hlen hnw hn'
  have xa : ∀ o, (w.alloc o).cell? ⟨X, 0, none⟩ = some (.slice dx n dc) := fun o => (HXC.out _ (below_one w o)).1
  go_enter Tryz.func24, Tryz.ntmps24
  go_wp2_with fail
  clear xa
  refine (HPL.out _).mono ?_
  rintro e w1 ⟨i, hpi, rfl, hb1⟩
  have HI1 := Lib.hid ((HP0.out _).after hb1)
  have HFF := Lib.hid (found_is HL.out.2.2.1 hpi)
  clear hb1 hpi HPL HP0
  by_cases hf : i < ks.length ∧ cmpAt ks s i = 0
  · obtain ⟨hi, h0⟩ := hf
    have hpn := place_found HL.out.2.1 HL.out.2.2.2 hi h0
    rw [show (decide (i < ks.length) && decide (cmpAt ks s i = 0)) = true by rw [decide_eq_true hi, decide_eq_true h0]; rfl]
    have him : i < ms.length := by rw [HL.out.2.1.len]; exact hi
    have HPN : Hid (∃ h : i < ms.length, ∃ h2 : i < ks.length, placeN (namesM ms) s = (i : Int)) := Lib.hid ⟨him, hi, hpn⟩
    have hb1 := HI1.out.below
    obtain ⟨x0, x1⟩ := HXC.out w1 hb1
    obtain ⟨b0, b1, b2, b3, _, _, _, _⟩ := HI1.out.box
    have HBD : Hid (Below w.heap.size w w1.drew) := Lib.hid (hb1.trans ((below_drewN w1 1).mono hb1.size))
    have hm := HMY.out w1.drew HBD.out i hi
    rw [HN.out] at hm
    obtain ⟨mv, hmv⟩ : ∃ mv, mayV ks[i] ⟨vk, vi, vt, vw⟩ = mv := ⟨_, rfl⟩
    rw [hmv] at hm
    have HM := Lib.hid hm
    have HMV : Hid (∃ h2 : i < ks.length, mayV ks[i] ⟨vk, vi, vt, vw⟩ = mv) := Lib.hid ⟨hi, hmv⟩
    have HI1D := Lib.hid (HI1.out.after (below_drewN w1 1))
    clear hm hmv hb1 h0 hpn HFF HMY
    go_wp2
    go_region_law (first
      | (go_simp; (with_reducible refine HM.out.mono ?_); rintro e w2 ⟨rfl, hb2⟩; have HI2 := Lib.hid (HI1D.out.after hb2); clear hb2; dsimp only))
    all_goals
      cases mv with
      | false =>
        have HE : Hid (LpRes F w X dx dc ks ms s ⟨vk, vi, vt, vw⟩ fr (.returned (.int .i64 91)) w2) := Lib.hid (by
          obtain ⟨h1, h2, h3⟩ := HPN.out
          obtain ⟨_, h4⟩ := HMV.out
          exact ⟨91, rfl, .inr ⟨i, h1, h2, h3, .inl ⟨h4, rfl, HI2.out.below⟩⟩⟩)
        clear HM HMV HI1D HI1 HBD HPN HCP HTX HXC HL HN HNW
        go_wp2
        go_ret
        exact HE.out
      | true =>
        by_cases hfr : 0 ≤ fr ∧ fr ≤ 5
        · have q5 : ¬ fr < 0 := by omega
          have q6 : ¬ 5 < fr := by omega
          obtain ⟨bh, hxe, hrest⟩ := HL.out.1.held i him
          clear hrest
          have HHX := Lib.hid hxe
          have HCN : Hid (Calls Tryz.prog 49 #[.slice hx ms.length hc] w2 (HcRes w2 ms)) := Lib.hid (by
            rw [HHX.out]
            refine hclone_any F ms bh hc w2 ?_ (by omega) (by have := HN2.out; omega)
            have := (HL.out.1.below HI2.out.below).held
            rw [HHX.out] at this; exact this)
          obtain ⟨y0, y1⟩ := HXC.out w2 HI2.out.below
          clear hxe HM
          go_wp2_with fail
          refine HCN.out.mono ?_
          rintro e w3 ⟨g, c', cur, rfl, hg0, hb3, hG, hc', hcur⟩
          have hg : w.heap.size ≤ g := Nat.le_trans HI2.out.below.size hg0
          clear hg0
          have HI3 := Lib.hid (HI2.out.after hb3)
          have hX3 := (HL.out.1.below HI3.out.below).obj
          have hG3 := hG
          have z1 : w3.frozen? ⟨X, 1, none⟩ = false := by simp [World.frozen?, hX3]
          have z1' := cell_of_row w3 X 1 _ _ _ hX3
          replace z1' : w3.cell? ⟨X, 1, none⟩ = some (.slice hx ms.length hc) := z1'
          have hXl : X < w.heap.size := heap_ltF HL.out.1.obj
          have hgX : ¬ g = X := by omega
          have hbx := HI3.out.box
          have HW4 : Hid (∀ u, But X w (w3.setCell ⟨X, 1, none⟩ u) ∧ (w3.setCell ⟨X, 1, none⟩ u).heap[X]? = some (Obj.cells #[.slice dx ks.length dc, u] 60) ∧ (w3.setCell ⟨X, 1, none⟩ u).heap[g]? = some (.cells cur 107) ∧ TxAt (w3.setCell ⟨X, 1, none⟩ u) y vw ∧ Box4 (w3.setCell ⟨X, 1, none⟩ u) w.heap.size (.int .i64 vk) (.int .i64 vi) (.string vt) (.slice y nw d)) := Lib.hid fun u =>
            ⟨(But.of_below HI3.out.below).setCell 1 u, setX hX3, by rw [Below.heap_setCell _ _ _ _ hgX]; exact hG3, (HTX.out w3 HI3.out.below).offX hX3 u, HI3.out.box.off (by omega) 1 u⟩
          have HGC := Lib.hid (And.intro hg (And.intro hc' hcur))
          have HIM := Lib.hid him
          obtain ⟨nm2, hnm2⟩ : ∃ n2, ms.length = n2 := ⟨_, rfl⟩
          have HNM2 := Lib.hid hnm2
          have q7 : (0 : Int) ≤ i := by omega
          have q8 : (i : Int) < nm2 := by omega
          rw [hnm2] at z1' y1
          clear hbx hX3 hG3 hb3 hg hG hc' hcur HXC HTX HI2 HI1 HI1D HBD him
          rw [hnm2]
          clear hnm2
          obtain ⟨W4, hW4⟩ : ∃ W4, w3.setCell ⟨X, 1, none⟩ (.slice (some ⟨g, 0, none⟩) nm2 c') = W4 := ⟨_, rfl⟩
          have h4 := HW4.out (.slice (some ⟨g, 0, none⟩) nm2 c')
          rw [hW4] at h4
          have H4 := Lib.hid h4
          have hW4' := Lib.hid hW4
          clear h4 hW4 HW4
          go_wp2
          rw [hW4'.out]
          obtain ⟨_, hx4, hg4, ht4, hb4⟩ := H4.out
          have x4 : W4.cell? ⟨X, 1, none⟩ = some (.slice (some ⟨g, 0, none⟩) nm2 c') := by rw [cell_of_row W4 X 1 _ _ _ hx4]; rfl
          obtain ⟨b0, b1, b2, b3, _, _, _, _⟩ := hb4
          have HCC := Lib.hid (HCP.out W4.drew (fun k hk => ht4 k hk))
          clear hx4 hg4 ht4 HCP HI3 y1 y0 z1 z1' hW4'
          have HXW := Lib.hid x4
          go_region_law (first
            | (go_simp; (with_reducible refine HCC.out.mono ?_); rintro e w5 ⟨y', d', rfl, hr5, hb5⟩
               have x5 := (hb5.cell (p := ⟨X, 1, none⟩) (lt_of_cell (show W4.drew.cell? _ = _ from HXW.out))).trans (show W4.drew.cell? _ = _ from HXW.out)
               have hb5X : But X w w5 := (H4.out.1.then_below (below_drewN W4 1)).then_below hb5
               have hX5 := (hb5.block X (heap_ltF H4.out.2.1)).trans (show W4.drew.heap[X]? = _ from H4.out.2.1)
               have hG5 := (hb5.block g (heap_ltF H4.out.2.2.1)).trans (show W4.drew.heap[g]? = _ from H4.out.2.2.1)
               have HF := Lib.hid (put_fin5 HL.out.1 HNM2.out HNW.out hb5X hX5 HGC.out.1 hG5 HGC.out.2.2 HGC.out.2.1 HIM.out ⟨vk, vi, vt, vw⟩ y' d' fr (Nat.le_trans H4.out.1.2.2.2.1 (Nat.le_refl _)) hr5)
               obtain ⟨⟨u0, c0⟩, ⟨u1, c1⟩, ⟨u2, c2⟩, ⟨u3, c3⟩, ⟨u4, c4⟩, hfz⟩ := HF.out.2
               have f0 := hfz (i * 5)
               have f1 := hfz (i * 5 + 1)
               have f2 := hfz (i * 5 + 2)
               have f3 := hfz (i * 5 + 3)
               have f4 := hfz (i * 5 + 4)
               clear hr5 hb5 hb5X hX5 hG5 hfz; dsimp only))
          all_goals
            have HE : Hid (LpRes F w X dx dc ks ms s ⟨vk, vi, vt, vw⟩ fr (.returned (.int .i64 0)) (((((w5.setCell ⟨g, i * 5, none⟩ (.int .i64 vk)).setCell ⟨g, i * 5 + 1, none⟩ (.int .i64 vi)).setCell ⟨g, i * 5 + 2, none⟩ (.string vt)).setCell ⟨g, i * 5 + 3, none⟩ (.slice y' nw d')).setCell ⟨g, i * 5 + 4, none⟩ (.int .i64 fr))) := Lib.hid (by
              obtain ⟨h1, h2, h3⟩ := HPN.out
              obtain ⟨_, h4⟩ := HMV.out
              exact ⟨0, rfl, .inr ⟨i, h1, h2, h3, .inr (.inr ⟨h4, hfr, rfl, _, _, y', d', by simpa using HF.out.1.1, HF.out.1.2⟩)⟩⟩)
            clear HF HCC HXW H4 HGC HIM HNM2 HPN HMV HL HN2 HN HNW c0 c1 c2 c3 c4 f0 f1 f2 f3 f4 b0 b1 b2 b3 x4 x5
            go_wp2
            go_ret
            exact HE.out
        · have HE : Hid (LpRes F w X dx dc ks ms s ⟨vk, vi, vt, vw⟩ fr (.returned (.int .i64 1)) w2) := Lib.hid (by
            obtain ⟨h1, h2, h3⟩ := HPN.out
            obtain ⟨_, h4⟩ := HMV.out
            exact ⟨1, rfl, .inr ⟨i, h1, h2, h3, .inr (.inl ⟨h4, hfr, rfl, HI2.out.below⟩)⟩⟩)
          clear HM HMV HI1D HI1 HBD HPN HCP HTX HXC HL HN HNW
          by_cases h5 : fr < 0
          · clear hfr
            go_wp2
            go_ret
            exact HE.out
          · have h6 : 5 < fr := by omega
            clear hfr
            go_wp2
            go_ret
            exact HE.out
  · have hF : (decide (i < ks.length) && decide (cmpAt ks s i = 0)) = false := by
      rw [Bool.and_eq_false_iff]
      by_cases h1 : i < ks.length
      · exact Or.inr (decide_eq_false (fun h2 => hf ⟨h1, h2⟩))
      · exact Or.inl (decide_eq_false h1)
    have HE : Hid (LpRes F w X dx dc ks ms s ⟨vk, vi, vt, vw⟩ fr (.returned (.int .i64 90)) w1) := Lib.hid ⟨90, rfl, .inl ⟨place_lost HL.out.2.1 (HFF.out.symm.trans hF), rfl, HI1.out.below⟩⟩
    rw [hF]
    clear hf hF HFF HI1 HMY HCP HTX HXC HL HN HNW
    go_wp2
    go_ret
    exact HE.out
end Go.Proofs.YtlcgfdijohgnpaaGreatDoor

namespace Go.Proofs.YtlcgfdijohgnpaaGreatDoor
open Go.ChangeShapes Go.WideShapes Go.ChangeAt Go.RowKit

def sVal (nm : ByteArray) (v : Val) (y : Option Addr) (d : Nat) (fr : Int) : Value := .agg #[.string nm, .int .i64 v.kind, .int .i64 v.int, .string v.text, .slice y v.words.length d, .int .i64 fr]
def zVal : Value := .agg #[.string ⟨#[]⟩, .int .i64 0, .int .i64 0, .string ⟨#[]⟩, .slice none 0 0, .int .i64 0]
def GtRes (w : World) (ms : List SetM) (s : ByteArray) (e : Ending) (w' : World) : Prop := Below w.heap.size w w' ∧
 ((placeN (namesM ms) s = -1 ∧ e = .returned (.tuple #[zVal, .bool false])) ∨ ∃ j, ∃ h : j < ms.length, placeN (namesM ms) s = (j : Int) ∧ ∃ y d, e = .returned (.tuple #[sVal (ms[j]).x.name (ms[j]).x.val y d (ms[j]).x.from_, .bool true]) ∧
  w'.ownsRow w.heap.size 9 1 (.slice y (ms[j]).x.val.words.length d) (ms[j]).x.val.words.length ((ms[j]).x.val.words.map Value.string))
theorem sBlock (w : World) (t : TypeId) : (w.alloc (Obj.cells #[.string ⟨#[]⟩, .int .i64 0, .int .i64 0, .string ⟨#[]⟩, .slice none 0 0, .int .i64 0] t)).heap[w.heap.size]? = some (Obj.cells #[.string ⟨#[]⟩, .int .i64 0, .int .i64 0, .string ⟨#[]⟩, .slice none 0 0, .int .i64 0] t) := heap_alloc_new w _
set_option maxHeartbeats 3200000 in
set_option maxRecDepth 100000 in
theorem lget_any (F : Nat → Prop) (X : Nat) (w : World) (dx hx : Option Addr) (dc hc : Nat) (ks : List KeyV) (ms : List SetM) (h : LayAt F w X dx dc hx hc ks ms) (hok : LayOk ks ms) (hs : Sorted ks) (hd : Dis (namesM ms)) (hn : ms.length ≤ 1000) (s : ByteArray) :
  Calls Tryz.prog 10 #[.pointer (some ⟨X, 0, none⟩), .string s] w (GtRes w ms s) := by
 have hlen := hok.len
 have HPL : Hid (∀ o, Calls Tryz.prog 25 #[.slice dx ks.length dc, .string s] (w.alloc o) (FoundRes ks s (w.alloc o))) := Lib.hid fun o => lplace_any F ks s dx dc (w.alloc o) (h.below (below_one w o)).defs (hs.mono _) (by omega)
 have HST : Hid (∀ W, Below w.heap.size w W → ∀ i (hi : i < ms.length), Calls Tryz.prog 26 #[.pointer (some ⟨X, 0, none⟩), .int .i64 i] W fun e w' => ∃ y d, e = .returned (.agg #[.string (ms[i]).x.name, .int .i64 (ms[i]).x.val.kind, .int .i64 (ms[i]).x.val.int, .string (ms[i]).x.val.text, .slice y (ms[i]).x.val.words.length d, .int .i64 (ms[i]).x.from_]) ∧ w'.ownsRow W.heap.size 9 1 (.slice y (ms[i]).x.val.words.length d) (ms[i]).x.val.words.length ((ms[i]).x.val.words.map Value.string) ∧ Below W.heap.size W w') := Lib.hid fun W hb i hi =>
  lsetting_any F X W dx hx dc hc ks ms (h.below hb) hok i hi
 have xa : ∀ o, (w.alloc o).cell? ⟨X, 0, none⟩ = some (.slice dx ks.length dc) := fun o => (h.below (below_one w o)).cells.1
 have HL := Lib.hid (And.intro hok (And.intro hs hd))
 have HB0 : Hid (∀ o, Below w.heap.size w (w.alloc o) ∧ (w.alloc o).heap.size = w.heap.size + 1) := Lib.hid fun o => ⟨below_one w o, by simp⟩
 obtain ⟨n, hn'⟩ : ∃ n, ks.length = n := ⟨_, rfl⟩
 have HN := Lib.hid hn'
 rw [hn'] at HPL
 simp only [hn'] at xa
 clear h hok hs hd hn hlen hn'
 go_enter Tryz.func10, Tryz.ntmps10
 go_wp2_with fail
 clear xa
 refine (HPL.out _).mono ?_
 rintro e w1 ⟨i, hpi, rfl, hb1⟩
 have HFF := Lib.hid (found_is HL.out.2.1 hpi)
 have hbw := (HB0.out (Obj.cells #[.string ⟨#[]⟩, .int .i64 0, .int .i64 0, .string ⟨#[]⟩, .slice none 0 0, .int .i64 0] 39)).1
 have HB1 := Lib.hid (hbw.trans (hb1.mono hbw.size))
 have hR1 := (hb1.block w.heap.size (by rw [(HB0.out _).2]; omega)).trans (sBlock w 39)
 have hsz1 : w.heap.size + 1 ≤ w1.heap.size := by have := hb1.size; rw [(HB0.out _).2] at this; exact this
 have HR1 := Lib.hid (And.intro hR1 hsz1)
 clear hb1 hpi HPL HB0 hbw hR1 hsz1
 by_cases hf : i < ks.length ∧ cmpAt ks s i = 0
 ·obtain ⟨hi, h0⟩ := hf
  have hpn := place_found HL.out.1 HL.out.2.2 hi h0
  have him : i < ms.length := by rw [HL.out.1.len]; exact hi
  rw [show (decide (i < ks.length) && decide (cmpAt ks s i = 0)) = true by rw [decide_eq_true hi, decide_eq_true h0]; rfl]
  have HS1 := Lib.hid (HST.out w1 HB1.out i him)
  have HPN : Hid (∃ h : i < ms.length, placeN (namesM ms) s = (i : Int)) := Lib.hid ⟨him, hpn⟩
  have HGT : Hid (∀ w' y d, Below w.heap.size w w' → w'.ownsRow w.heap.size 9 1 (.slice y (ms[i]).x.val.words.length d) (ms[i]).x.val.words.length ((ms[i]).x.val.words.map Value.string) → GtRes w ms s (.returned (.tuple #[sVal (ms[i]).x.name (ms[i]).x.val y d (ms[i]).x.from_, .bool true])) w') := Lib.hid fun w' y d h1 h2 => ⟨h1, .inr ⟨i, him, hpn, y, d, rfl, h2⟩⟩
  clear h0 hpn HFF HST HL hi HN
  generalize ms[i] = m at *
  obtain ⟨⟨nm, ⟨kd, it, tx, ws⟩, fr⟩, a, mc⟩ := m
  unfold sVal at HGT
  simp only at HS1 HGT
  obtain ⟨nw, hnw⟩ : ∃ nw, ws.length = nw := ⟨_, rfl⟩
  rw [hnw] at HS1 HGT
  clear hnw him HPN
  go_wp2_with fail
  refine HS1.out.mono ?_
  rintro e w2 ⟨y, d, rfl, hr2, hb2⟩
  have hR2 := (hb2.block w.heap.size (by have := HR1.out.2; omega)).trans HR1.out.1
  have c0 := cell_of_row w2 w.heap.size 0 _ _ _ hR2
  have c1 := cell_of_row w2 w.heap.size 1 _ _ _ hR2
  have c2 := cell_of_row w2 w.heap.size 2 _ _ _ hR2
  have c3 := cell_of_row w2 w.heap.size 3 _ _ _ hR2
  have c4 := cell_of_row w2 w.heap.size 4 _ _ _ hR2
  have c5 := cell_of_row w2 w.heap.size 5 _ _ _ hR2
  replace c0 : w2.cell? ⟨w.heap.size, 0, none⟩ = some (.string ⟨#[]⟩) := c0
  replace c1 : w2.cell? ⟨w.heap.size, 1, none⟩ = some (.int .i64 0) := c1
  replace c2 : w2.cell? ⟨w.heap.size, 2, none⟩ = some (.int .i64 0) := c2
  replace c3 : w2.cell? ⟨w.heap.size, 3, none⟩ = some (.string ⟨#[]⟩) := c3
  replace c4 : w2.cell? ⟨w.heap.size, 4, none⟩ = some (.slice none 0 0) := c4
  replace c5 : w2.cell? ⟨w.heap.size, 5, none⟩ = some (.int .i64 0) := c5
  have z : ∀ j, w2.frozen? ⟨w.heap.size, j, none⟩ = false := fun j => by simp [World.frozen?, hR2]
  have z0 := z 0
  have z1 := z 1
  have z2 := z 2
  have z3 := z 3
  have z4 := z 4
  have z5 := z 5
  have HF := Lib.hid (six_set (S := w.heap.size) (B := w1.heap.size) (.string nm) (.int .i64 kd) (.int .i64 it) (.string tx) (.slice y nw d) (.int .i64 fr) (HB1.out.trans (hb2.mono HB1.out.size)) (Nat.le_refl _) (cells6 c0 c1 c2 c3 c4 c5) (by have := HR1.out.2; omega) hr2)
  obtain ⟨_, _, hc6⟩ := HF.out
  have m0 := hc6 0 _ rfl
  have m1 := hc6 1 _ rfl
  have m2 := hc6 2 _ rfl
  have m3 := hc6 3 _ rfl
  have m4 := hc6 4 _ rfl
  have m5 := hc6 5 _ rfl
  have HE := Lib.hid (HGT.out _ y d HF.out.1 HF.out.2.1)
  clear hc6 z hR2 hr2 hb2 HS1 HR1 HB1 HGT HF
  go_wp2
  exact bodyPost_ret (v := .tuple #[.agg #[.string nm, .int .i64 kd, .int .i64 it, .string tx, .slice y nw d, .int .i64 fr], .bool true]) (by simp [results, Tryz.results10, go_sem, m0, m1, m2, m3, m4, m5]) rfl HE.out
 ·have hF : (decide (i < ks.length) && decide (cmpAt ks s i = 0)) = false := by
   rw [Bool.and_eq_false_iff]
   by_cases h1 : i < ks.length
   ·exact Or.inr (decide_eq_false (fun h2 => hf ⟨h1, h2⟩))
   ·exact Or.inl (decide_eq_false h1)
  have hpl := place_lost HL.out.1 (HFF.out.symm.trans hF)
  have HGT : Hid (∀ w', Below w.heap.size w w' → GtRes w ms s (.returned (.tuple #[zVal, .bool false])) w') := Lib.hid fun w' h1 => ⟨h1, .inl ⟨hpl, rfl⟩⟩
  rw [hF]
  have hR2 := HR1.out.1
  have c0 := cell_of_row w1 w.heap.size 0 _ _ _ hR2
  have c1 := cell_of_row w1 w.heap.size 1 _ _ _ hR2
  have c2 := cell_of_row w1 w.heap.size 2 _ _ _ hR2
  have c3 := cell_of_row w1 w.heap.size 3 _ _ _ hR2
  have c4 := cell_of_row w1 w.heap.size 4 _ _ _ hR2
  have c5 := cell_of_row w1 w.heap.size 5 _ _ _ hR2
  replace c0 : w1.cell? ⟨w.heap.size, 0, none⟩ = some (.string ⟨#[]⟩) := c0
  replace c1 : w1.cell? ⟨w.heap.size, 1, none⟩ = some (.int .i64 0) := c1
  replace c2 : w1.cell? ⟨w.heap.size, 2, none⟩ = some (.int .i64 0) := c2
  replace c3 : w1.cell? ⟨w.heap.size, 3, none⟩ = some (.string ⟨#[]⟩) := c3
  replace c4 : w1.cell? ⟨w.heap.size, 4, none⟩ = some (.slice none 0 0) := c4
  replace c5 : w1.cell? ⟨w.heap.size, 5, none⟩ = some (.int .i64 0) := c5
  have z : ∀ j, w1.frozen? ⟨w.heap.size, j, none⟩ = false := fun j => by simp [World.frozen?, hR2]
  have z0 := z 0
  have z1 := z 1
  have z2 := z 2
  have z3 := z 3
  have z4 := z 4
  have z5 := z 5
  have HF := Lib.hid (six_set (S := w.heap.size) (B := w.heap.size + 1) (n := 0) (v := .slice none 0 0) (xs := []) (.string ⟨#[]⟩) (.int .i64 0) (.int .i64 0) (.string ⟨#[]⟩) (.slice none 0 0) (.int .i64 0) HB1.out (Nat.le_refl _) (cells6 c0 c1 c2 c3 c4 c5) (by omega) (World.ownsRow_nil _ _ _ _))
  obtain ⟨_, _, hc6⟩ := HF.out
  have m0 := hc6 0 _ rfl
  have m1 := hc6 1 _ rfl
  have m2 := hc6 2 _ rfl
  have m3 := hc6 3 _ rfl
  have m4 := hc6 4 _ rfl
  have m5 := hc6 5 _ rfl
  have HE := Lib.hid (HGT.out _ HF.out.1)
  unfold zVal at HE
  clear hc6 z hR2 hf hF HFF HST HL HR1 HB1 HGT HF hpl HN
  go_wp2
  exact bodyPost_ret (v := .tuple #[.agg #[.string ⟨#[]⟩, .int .i64 0, .int .i64 0, .string ⟨#[]⟩, .slice none 0 0, .int .i64 0], .bool false]) (by simp [results, Tryz.results10, go_sem, m0, m1, m2, m3, m4, m5]) rfl HE.out
set_option maxRecDepth 100000 in
theorem lcopy_any (F : Nat → Prop) (X : Nat) (w : World) (dx hx : Option Addr) (dc hc : Nat) (ks : List KeyV) (ms : List SetM) (h : LayAt F w X dx dc hx hc ks ms) :
  Calls Tryz.prog 22 #[.pointer (some ⟨X, 0, none⟩)] w fun e w' => e = .returned (.pointer (some ⟨w.heap.size, 0, none⟩)) ∧ LayAt F w' w.heap.size dx dc hx hc ks ms ∧ Below w.heap.size w w' := by
 obtain ⟨x0, x1⟩ := h.cells
 have HE : Hid (LayAt F (w.alloc (Obj.cells #[.slice dx ks.length dc, .slice hx ms.length hc] 60)) w.heap.size dx dc hx hc ks ms ∧ Below w.heap.size w (w.alloc (Obj.cells #[.slice dx ks.length dc, .slice hx ms.length hc] 60))) := Lib.hid (by
  have hb := below_one w (Obj.cells #[.slice dx ks.length dc, .slice hx ms.length hc] 60)
  have h2 := h.below hb
  exact ⟨⟨heap_alloc_new w _, h2.defs, h2.held, fun hF => by have := h.lt _ hF; omega, h.room, h2.lt⟩, hb⟩)
 clear h
 generalize ks.length = n at *
 generalize ms.length = m at *
 go_enter Tryz.func22, Tryz.ntmps22
 go_wp2
 go_ret
 exact ⟨rfl, HE.out⟩
end Go.Proofs.YtlcgfdijohgnpaaGreatDoor
