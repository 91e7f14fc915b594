/-
  SetPut.
-/
import Derived.Test.YtopghlnoklajkaaGreatDoorQSetAll
import Derived.Deep.RegionHeld3
import Derived.Deep.RegionLaw
namespace Go.Proofs.YtopghlnoklajkaaGreatDoor
open Go.ChangeShapes Go.WideShapes Go.ChangeAt Go.RowKit

theorem placeGo_cases (s : ByteArray) : ∀ (ns : List ByteArray) (k : Nat), placeGo s ns k = -1 ∨ ∃ j, ∃ h : j < ns.length, placeGo s ns k = ((k + j : Nat) : Int) ∧ (ns[j].toList == s.toList) = true := by
  intro ns
  induction ns with
  | nil => intro k; exact .inl rfl
  | cons n r ih =>
    intro k
    unfold placeGo
    by_cases h : (n.toList == s.toList) = true
    · rw [if_pos h]
      exact .inr ⟨0, by simp, by simp, h⟩
    · rw [if_neg h]
      rcases ih (k + 1) with h1 | ⟨j, hj, h1, h2⟩
      · exact .inl h1
      · exact .inr ⟨j + 1, by simpa using hj, by rw [h1]; congr 1; omega, by simpa using h2⟩
theorem placeN_cases (ns : List ByteArray) (s : ByteArray) : placeN ns s = -1 ∨ ∃ j, ∃ h : j < ns.length, placeN ns s = (j : Int) ∧ (ns[j].toList == s.toList) = true := by
  rcases placeGo_cases s ns 0 with h | ⟨j, hj, h1, h2⟩
  · exact .inl h
  · exact .inr ⟨j, hj, by unfold placeN; rw [h1]; simp, h2⟩
theorem sFlat_put (ms : List SetM) (k : Nat) (hk : k < ms.length) (v : Val) (y : Option Addr) (d : Nat) (fr : Int) :
    ((((((sFlat ms).set (k * 6 + 1) (.int .i64 v.kind)).set (k * 6 + 2) (.int .i64 v.int)).set (k * 6 + 3) (.string v.text)).set (k * 6 + 4) (.slice y v.words.length d)).set (k * 6 + 5) (.int .i64 fr)) = sFlat (ms.set k ⟨⟨ms[k].x.name, v, fr⟩, y, d⟩) := by
  have hs := sFlat_len ms
  have hs2 := sFlat_len (ms.set k ⟨⟨ms[k].x.name, v, fr⟩, y, d⟩)
  rw [List.length_set] at hs2
  apply List.ext_getElem?
  intro j
  by_cases hj : j < ms.length * 6
  · obtain ⟨q, r, hq, hr⟩ : ∃ q r, j = q * 6 + r ∧ r < 6 := ⟨j / 6, j % 6, by omega, by omega⟩
    subst hq
    have hql : q < ms.length := by omega
    rw [sFlat_at _ q (by rw [List.length_set]; exact hql) r hr]
    by_cases hqk : q = k
    · subst hqk
      rw [List.getElem_set_self]
      have h6 : r = 0 ∨ r = 1 ∨ r = 2 ∨ r = 3 ∨ r = 4 ∨ r = 5 := by omega
      rcases h6 with rfl | rfl | rfl | rfl | rfl | rfl
      · rw [List.getElem?_set_ne (by omega), List.getElem?_set_ne (by omega), List.getElem?_set_ne (by omega), List.getElem?_set_ne (by omega), List.getElem?_set_ne (by omega), sFlat_at ms q hql 0 (by decide)]; rfl
      · rw [List.getElem?_set_ne (by omega), List.getElem?_set_ne (by omega), List.getElem?_set_ne (by omega), List.getElem?_set_ne (by omega), List.getElem?_set_self (by omega)]; rfl
      · rw [List.getElem?_set_ne (by omega), List.getElem?_set_ne (by omega), List.getElem?_set_ne (by omega), List.getElem?_set_self (by rw [List.length_set]; omega)]; rfl
      · rw [List.getElem?_set_ne (by omega), List.getElem?_set_ne (by omega), List.getElem?_set_self (by rw [List.length_set, List.length_set]; omega)]; rfl
      · rw [List.getElem?_set_ne (by omega), List.getElem?_set_self (by rw [List.length_set, List.length_set, List.length_set]; omega)]; rfl
      · rw [List.getElem?_set_self (by rw [List.length_set, List.length_set, List.length_set, List.length_set]; omega)]; rfl
    · have hne : ¬ k = q := fun e => hqk e.symm
      have hdis : ∀ i, i < 6 → k * 6 + i ≠ q * 6 + r := fun i hi => by
        intro e
        have : k = q := by omega
        exact hne this
      rw [List.getElem?_set_ne (hdis 5 (by decide)), List.getElem?_set_ne (hdis 4 (by decide)), List.getElem?_set_ne (hdis 3 (by decide)), List.getElem?_set_ne (hdis 2 (by decide)), List.getElem?_set_ne (hdis 1 (by decide)), sFlat_at ms q hql r hr, List.getElem_set_ne hne]
  · rw [List.getElem?_eq_none (by simp only [List.length_set]; omega), List.getElem?_eq_none (by omega)]
section
variable {B B2 : Nat} {w w' : World} {ms : List SetM} {g cap n : Nat}
theorem SetsAt.put (h : SetsAt B w (.slice (some ⟨g, 0, none⟩) n cap) ms) (hn : ms.length = n) {k : Nat} (hk : k < ms.length) (v : Val) (y : Option Addr) (d : Nat) (fr : Int) (hw : w.ownsRow B2 9 1 (.slice y v.words.length d) v.words.length (v.words.map Value.string)) :
    SetsAt B (((((w.setCell ⟨g, k * 6 + 1, none⟩ (.int .i64 v.kind)).setCell ⟨g, k * 6 + 2, none⟩ (.int .i64 v.int)).setCell ⟨g, k * 6 + 3, none⟩ (.string v.text)).setCell ⟨g, k * 6 + 4, none⟩ (.slice y v.words.length d)).setCell ⟨g, k * 6 + 5, none⟩ (.int .i64 fr)) (.slice (some ⟨g, 0, none⟩) n cap) (ms.set k ⟨⟨ms[k].x.name, v, fr⟩, y, d⟩) ∧
    w.grownBy (((((w.setCell ⟨g, k * 6 + 1, none⟩ (.int .i64 v.kind)).setCell ⟨g, k * 6 + 2, none⟩ (.int .i64 v.int)).setCell ⟨g, k * 6 + 3, none⟩ (.string v.text)).setCell ⟨g, k * 6 + 4, none⟩ (.slice y v.words.length d)).setCell ⟨g, k * 6 + 5, none⟩ (.int .i64 fr)) (some g) := by
  subst hn
  have hg : w.grownBy (((((w.setCell ⟨g, k * 6 + 1, none⟩ (.int .i64 v.kind)).setCell ⟨g, k * 6 + 2, none⟩ (.int .i64 v.int)).setCell ⟨g, k * 6 + 3, none⟩ (.string v.text)).setCell ⟨g, k * 6 + 4, none⟩ (.slice y v.words.length d)).setCell ⟨g, k * 6 + 5, none⟩ (.int .i64 fr)) (some g) :=
    ((((setGrown w g _ _).trans (setGrown _ g _ _)).trans (setGrown _ g _ _)).trans (setGrown _ g _ _)).trans (setGrown _ g _ _)
  refine ⟨⟨?_, fun m hm => ?_⟩, hg⟩
  · have h1 := (h.row.stored (k * 6 + 1) (.int .i64 v.kind)).1
    have h2 := (h1.stored (k * 6 + 2) (.int .i64 v.int)).1
    have h3 := (h2.stored (k * 6 + 3) (.string v.text)).1
    have h4 := (h3.stored (k * 6 + 4) (.slice y v.words.length d)).1
    have h5 := (h4.stored (k * 6 + 5) (.int .i64 fr)).1
    rw [sFlat_put ms k hk v y d fr] at h5
    rw [List.length_set]
    exact h5
  · have hap := rowApart hw h.row (by decide)
    have hwk := hw.kept (row := some g) hg hap
    rcases List.mem_or_eq_of_mem_set hm with hm | rfl
    · have h0 := h.wds m hm
      exact ⟨h0.grownTx hg, h0.2.1, h0.2.2⟩
    · refine ⟨fun j hj => ?_, ?_, fun b off hpos e hq => ?_⟩
      · rcases hwk.2 with ⟨h1, h2⟩ | ⟨g', cap', cur, h1, _, hgg, _⟩
        · simp only at hj; omega
        · injection h1 with h1 _ _
          subst h1
          refine ⟨g', 0, rfl, heap_lt hgg, ?_⟩
          rw [Nat.zero_add, hwk.cellAt j (by simp only at hj; omega), List.getElem?_map, List.getElem?_eq_getElem hj]; rfl
      · rcases hwk.2 with ⟨h1, h2⟩ | ⟨g', cap', cur, h1, _, _, hnc, _⟩
        · simp only; omega
        · injection h1 with _ _ h3
          simp only; omega
      · simp only at e
        rcases hap with h1 | h1
        · rw [e] at h1; simp [Value.ownBlock] at h1
        · rw [e] at h1
          exact h1 (by rw [hq]; rfl)
end
def PutRes (B : Nat) (w : World) (lv : Value) (ks : List KeyV) (ms : List SetM) (s : ByteArray) (v : Val) (fr : Int) (e : Ending) (w' : World) : Prop :=
  ∃ E : Int, e = .returned (.int .i64 E) ∧ ((placeN (namesM ms) s = -1 ∧ E = 90 ∧ Below w.heap.size w w') ∨ ∃ j, ∃ h : j < ms.length, ∃ h2 : j < ks.length, placeN (namesM ms) s = (j : Int) ∧
    ((mayV ks[j] v = false ∧ E = 91 ∧ Below w.heap.size w w') ∨ (mayV ks[j] v = true ∧ ¬ (0 ≤ fr ∧ fr ≤ 5) ∧ E = 1 ∧ Below w.heap.size w w') ∨
     (mayV ks[j] v = true ∧ (0 ≤ fr ∧ fr ≤ 5) ∧ E = 0 ∧ ∃ y d, SetsAt B w' lv (ms.set j ⟨⟨ms[j].x.name, v, fr⟩, y, d⟩) ∧ w.grownBy w' lv.ownBlock)))
set_option maxHeartbeats 3200000 in
set_option maxRecDepth 100000 in
theorem sput_any (B X : Nat) (w : World) (lv : Value) (ks : List KeyV) (ms : List SetM) (yk : Option Addr) (ck : Nat) (hK : Keys w yk ks) (hX : SObj w X (.slice yk ks.length ck) lv) (h : SetsAt B w lv ms) (hlen : ks.length = ms.length) (hn : ms.length ≤ 1000) (s : ByteArray) (v : Val) (x : Option Addr) (c : Nat) (hv : ArgOk w v x c) (hvl : v.words.length ≤ 2147483647) (fr : Int) :
    Calls Tryz.prog 35 #[.pointer (some ⟨X, 0, none⟩), .string s, argV v x c, .int .i64 fr] w (PutRes B w lv ks ms s v fr) := by
  have HPL : Hid (∀ o, Calls Tryz.prog 73 #[.pointer (some ⟨X, 0, none⟩), .string s] (w.alloc o) fun e w' => e = .returned (.int .i64 (placeN (namesM ms) s)) ∧ w.alloc o = w') := Lib.hid fun o => splace_any B X (w.alloc o) _ lv ms s (hX.below (below_one w o)) (h.below (below_one w o)) (by omega)
  have HB1 : Hid (∀ o, Below w.heap.size w (w.alloc o)) := Lib.hid (below_one w)
  rcases placeN_cases (namesM ms) s with hp | ⟨j, hj, hp, hsame⟩
  · rw [hp] at HPL
    have HP := Lib.hid hp
    clear hK hX h hlen hn hv hvl hp
    unfold argV
    go_enter Tryz.func35, Tryz.ntmps35
    go_wp2_with fail
    refine (HPL.out _).mono ?_
    rintro e w1 ⟨rfl, rfl⟩
    go_wp2
    go_ret
    exact ⟨90, rfl, .inl ⟨HP.out, rfl, HB1.out _⟩⟩
  · have hjm : j < ms.length := by unfold namesM at hj; rw [List.length_map] at hj; exact hj
    have hjk : j < ks.length := by omega
    rw [hp] at HPL
    have HP := Lib.hid hp
    clear hsame hp hj
    obtain ⟨bk, hke, hkl, k0, k1, k2, k3, k4, k5⟩ := hK j hjk
    obtain ⟨g, cap, hlv, hgl, _⟩ := h.cells hjm
    obtain ⟨kq, hkq⟩ : ∃ kq, ks[j] = kq := ⟨_, rfl⟩
    have HKQ : Hid (∃ h2 : j < ks.length, ks[j] = kq) := Lib.hid ⟨hjk, hkq⟩
    have HJM := Lib.hid hjm
    rw [hkq] at k0 k1 k2 k3 k4 k5
    have HMY : Hid (∀ W, Below w.heap.size w W → Calls Tryz.prog 74 #[kAgg kq, argV v x c] W fun e w' => e = .returned (.bool (mayV kq v)) ∧ Below W.heap.size W w') := Lib.hid fun W hb => smay_any W kq v x c (hv.below hb) hvl
    have HOW : Hid (∀ W, Below w.heap.size w W → Calls Tryz.prog 36 #[argV v x c] W fun e w' => ∃ y d, e = .returned (argV v y d) ∧ w'.ownsRow W.heap.size 9 1 (.slice y v.words.length d) v.words.length (v.words.map Value.string) ∧ Below W.heap.size W w') := Lib.hid fun W hb => sown_any W v x c (hv.list.below hb) (by omega)
    have HST : Hid (∀ W, Below w.heap.size w W → SetsAt B W lv ms) := Lib.hid fun W hb => h.below hb
    have HXC : Hid (∀ W, Below w.heap.size w W → W.cell? ⟨X, 0, none⟩ = some (.slice yk ks.length ck) ∧ W.cell? ⟨X, 1, none⟩ = some lv) := Lib.hid fun W hb => (hX.below hb).cells
    have HKC : Hid (∀ W, Below w.heap.size w W → W.cell? ⟨bk, j * 6, none⟩ = some (.string kq.name) ∧ W.cell? ⟨bk, j * 6 + 1, none⟩ = some (.int .i64 kq.kind) ∧ W.cell? ⟨bk, j * 6 + 2, none⟩ = some (.string kq.dflt) ∧ W.cell? ⟨bk, j * 6 + 3, none⟩ = some (.int .i64 kq.least) ∧ W.cell? ⟨bk, j * 6 + 4, none⟩ = some (.int .i64 kq.most) ∧ W.cell? ⟨bk, j * 6 + 5, none⟩ = some (.string kq.letter)) := Lib.hid fun W hb =>
      ⟨(hb.cell (p := ⟨bk, _, none⟩) hkl).trans k0, (hb.cell (p := ⟨bk, _, none⟩) hkl).trans k1, (hb.cell (p := ⟨bk, _, none⟩) hkl).trans k2, (hb.cell (p := ⟨bk, _, none⟩) hkl).trans k3, (hb.cell (p := ⟨bk, _, none⟩) hkl).trans k4, (hb.cell (p := ⟨bk, _, none⟩) hkl).trans k5⟩
    have HFZ : Hid (∀ W, SetsAt B W lv ms → ∀ i, i < 6 → (∃ a, W.cell? ⟨g, j * 6 + i, none⟩ = some a) ∧ W.frozen? ⟨g, j * 6 + i, none⟩ = false) := Lib.hid fun W hW i hi => by
      obtain ⟨g', cap', e', _, hc'⟩ := hW.cells hjm
      rw [hlv] at e'
      injection e' with e1 _ _
      obtain rfl : g = g' := by simpa using e1
      refine ⟨⟨(sCells ms[j])[i]'(by simp [sCells]; omega), (hc' i hi).trans (List.getElem?_eq_getElem _)⟩, ?_⟩
      have hr := hW.row
      rw [hlv] at hr
      exact hr.frozenAt _
    have HLV : Hid (lv.ownBlock = some g) := Lib.hid (by rw [hlv]; rfl)
    obtain ⟨n, hn'⟩ : ∃ n, ms.length = n := ⟨_, rfl⟩
    have HN := Lib.hid hn'
    rw [hlen, hn'] at HXC
    rw [hn'] at hn hlv hjm
    subst hke
    obtain ⟨vk, vi, vt, vw⟩ := v
    obtain ⟨nw, hnw⟩ : ∃ nw, vw.length = nw := ⟨_, rfl⟩
    have HNW := Lib.hid hnw
    have HBX : Hid (∀ t W, Below (w.alloc (Obj.cells #[.int .i64 vk, .int .i64 vi, .string vt, .slice x nw c] t)).heap.size (w.alloc (Obj.cells #[.int .i64 vk, .int .i64 vi, .string vt, .slice x nw c] t)) W → Box4 W w.heap.size (.int .i64 vk) (.int .i64 vi) (.string vt) (.slice x nw c)) := Lib.hid fun t W hb => (box4_new w _ _ _ _ t).below hb
    obtain ⟨bm, hbm⟩ : ∃ bm, mayV kq ⟨vk, vi, vt, vw⟩ = bm := ⟨_, rfl⟩
    have HMV : Hid (∃ h2 : j < ks.length, mayV ks[j] ⟨vk, vi, vt, vw⟩ = bm) := Lib.hid ⟨hjk, by rw [hkq]; exact hbm⟩
    unfold argV at HMY HOW ⊢
    simp only [hnw, hbm] at HMY HOW ⊢
    obtain ⟨kn, kk, kd, kl, km, ke⟩ := kq
    unfold kAgg at HMY
    simp only at HMY HKC
    have q1 : (0 : Int) ≤ j := by omega
    have q2 : (j : Int) < n := by omega
    have q3 : ¬ (j : Int) < 0 := by omega
    have HPUT : Hid (∀ w3 y d B2, Below w.heap.size w w3 → w3.ownsRow B2 9 1 (.slice y nw d) nw (vw.map Value.string) → SetsAt B (((((w3.setCell ⟨g, j * 6 + 1, none⟩ (.int .i64 vk)).setCell ⟨g, j * 6 + 2, none⟩ (.int .i64 vi)).setCell ⟨g, j * 6 + 3, none⟩ (.string vt)).setCell ⟨g, j * 6 + 4, none⟩ (.slice y nw d)).setCell ⟨g, j * 6 + 5, none⟩ (.int .i64 fr)) lv (ms.set j ⟨⟨(ms[j]'HJM.out).x.name, ⟨vk, vi, vt, vw⟩, fr⟩, y, d⟩) ∧ w.grownBy (((((w3.setCell ⟨g, j * 6 + 1, none⟩ (.int .i64 vk)).setCell ⟨g, j * 6 + 2, none⟩ (.int .i64 vi)).setCell ⟨g, j * 6 + 3, none⟩ (.string vt)).setCell ⟨g, j * 6 + 4, none⟩ (.slice y nw d)).setCell ⟨g, j * 6 + 5, none⟩ (.int .i64 fr)) lv.ownBlock) := Lib.hid fun w3 y d B2 hb hr => by
      have h3 := HST.out w3 hb
      rw [hlv] at h3 ⊢
      subst hnw
      obtain ⟨p1, p2⟩ := h3.put hn' HJM.out ⟨vk, vi, vt, vw⟩ y d fr hr
      exact ⟨p1, World.grownBy.trans ⟨hb.os, hb.tape, hb.output, hb.size, fun k hk _ => hb.block k hk⟩ p2⟩
    have hXg : ¬ X = g := fun e => by
      obtain ⟨fz, hx⟩ := hX
      have := own_ne h.row hx (by decide)
      rw [hlv, e] at this
      exact this rfl
    subst hlv
    clear hK hX h hv hvl k0 k1 k2 k3 k4 k5 hkq hjk hjm hgl hbm hnw hkl
    go_enter Tryz.func35, Tryz.ntmps35
    go_wp2_with fail
    refine (HPL.out _).mono ?_
    rintro e w1 ⟨rfl, hw1⟩
    obtain ⟨x0, x1⟩ := HXC.out _ (HB1.out (Obj.cells #[.int .i64 vk, .int .i64 vi, .string vt, .slice x nw c] 48))
    obtain ⟨k0, k1, k2, k3, k4, k5⟩ := HKC.out _ (HB1.out (Obj.cells #[.int .i64 vk, .int .i64 vi, .string vt, .slice x nw c] 48))
    obtain ⟨b0, b1, b2, b3, _, _, _, _⟩ := HBX.out 48 _ (Below.refl _ _)
    have hbw := HB1.out (Obj.cells #[.int .i64 vk, .int .i64 vi, .string vt, .slice x nw c] 48)
    have hbx := HBX.out 48
    rw [hw1] at x0 x1 k0 k1 k2 k3 k4 k5 b0 b1 b2 b3 hbw hbx
    have HBW := Lib.hid hbw
    have HBD : Hid (Below w.heap.size w w1.drew) := Lib.hid (hbw.trans ((below_drewN w1 1).mono hbw.size))
    have HBXW := Lib.hid hbx
    clear hw1 hbw hbx HBX HPL HB1
    go_wp2
    go_region_law (first
      | (go_simp; (with_reducible refine (HMY.out _ HBD.out).mono ?_); rintro e w2 ⟨rfl, hb2⟩; have HB2 := Lib.hid (HBD.out.trans (hb2.mono HBD.out.size)); have HBX2 := Lib.hid (HBXW.out w2 ((below_drewN w1 1).trans hb2)); clear hb2; dsimp only))
    all_goals
      have HBD2 : Hid (Below w.heap.size w w2.drew) := Lib.hid (HB2.out.trans ((below_drewN w2 1).mono HB2.out.size))
      cases bm with
      | false =>
        go_wp2
        go_ret
        exact ⟨91, rfl, .inr ⟨j, HJM.out, HMV.out.1, HP.out, .inl ⟨HMV.out.2, rfl, HB2.out⟩⟩⟩
      | true =>
        by_cases hfr : 0 ≤ fr ∧ fr ≤ 5
        · have f1 : ¬ fr < 0 := by omega
          have f2 : ¬ 5 < fr := by omega
          obtain ⟨x0', x1'⟩ := HXC.out _ HB2.out
          obtain ⟨b0', b1', b2', b3', _, _, _, _⟩ := HBX2.out
          have HFR := Lib.hid hfr
          clear hfr
          go_wp2
          go_region_law (first
            | (go_simp; (with_reducible refine (HOW.out _ HBD2.out).mono ?_); rintro e w3 ⟨y, d, rfl, hr3, hb3⟩; have HB3 := Lib.hid (HBD2.out.trans (hb3.mono HBD2.out.size)); have HR3 := Lib.hid hr3; obtain ⟨x0'', x1''⟩ := HXC.out _ HB3.out; obtain ⟨⟨a1, p1⟩, z1⟩ := HFZ.out _ (HST.out _ HB3.out) 1 (by decide); obtain ⟨⟨a2, p2⟩, z2⟩ := HFZ.out _ (HST.out _ HB3.out) 2 (by decide); obtain ⟨⟨a3, p3⟩, z3⟩ := HFZ.out _ (HST.out _ HB3.out) 3 (by decide); obtain ⟨⟨a4, p4⟩, z4⟩ := HFZ.out _ (HST.out _ HB3.out) 4 (by decide); obtain ⟨⟨a5, p5⟩, z5⟩ := HFZ.out _ (HST.out _ HB3.out) 5 (by decide); clear hr3 hb3; dsimp only))
          all_goals
            obtain ⟨o1, o2⟩ := HPUT.out w3 y d _ HB3.out HR3.out
            have HO1 := Lib.hid o1
            have HO2 := Lib.hid o2
            clear o1 o2
            go_wp2
            go_ret
            exact ⟨0, rfl, .inr ⟨j, HJM.out, HMV.out.1, HP.out, .inr (.inr ⟨HMV.out.2, HFR.out, rfl, y, d, HO1.out, HO2.out⟩)⟩⟩
        · have HFR := Lib.hid hfr
          by_cases h0 : fr < 0
          · clear hfr
            go_wp2
            go_ret
            exact ⟨1, rfl, .inr ⟨j, HJM.out, HMV.out.1, HP.out, .inr (.inl ⟨HMV.out.2, HFR.out, rfl, HB2.out⟩)⟩⟩
          · have h5 : 5 < fr := by omega
            clear hfr
            go_wp2
            go_ret
            exact ⟨1, rfl, .inr ⟨j, HJM.out, HMV.out.1, HP.out, .inr (.inl ⟨HMV.out.2, HFR.out, rfl, HB2.out⟩)⟩⟩
end Go.Proofs.YtopghlnoklajkaaGreatDoor
