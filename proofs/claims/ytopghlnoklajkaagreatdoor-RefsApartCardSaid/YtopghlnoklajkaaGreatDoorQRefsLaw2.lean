/-
  LayAll2, RefsLaw2.
-/
import Derived.Test.YtopghlnoklajkaaGreatDoorQLayAll
import Derived.Test.YtopghlnoklajkaaGreatDoorQRefsLaw1
namespace Go.Proofs.YtopghlnoklajkaaGreatDoor
open Go.ChangeShapes Go.WideShapes Go.ChangeAt Go.RowKit

/-- The words of settings lie in memory behind a bound. -/
def NewW (B : Nat) (ms : List SetM) : Prop := ∀ m ∈ ms, ∀ b off, 0 < m.x.val.words.length → m.a = some ⟨b, off, none⟩ → B ≤ b
theorem NewW.zero (B n : Nat) : NewW B (List.replicate n zS) := fun m hm b off hp e => by
  rw [List.eq_of_mem_replicate hm] at hp
  exact absurd hp (by decide)
theorem NewW.set {B k : Nat} {ms : List SetM} {m : SetM} (h : NewW B ms) (_hk : True) (hm : ∀ b off, 0 < m.x.val.words.length → m.a = some ⟨b, off, none⟩ → B ≤ b) : NewW B (ms.set k m) := fun m0 h0 b off hp e => by
  rcases List.mem_or_eq_of_mem_set h0 with h0 | rfl
  · exact h m0 h0 b off hp e
  · exact hm b off hp e
set_option maxHeartbeats 3200000 in
set_option maxRecDepth 100000 in
theorem lall2_any (F : Nat → Prop) (X : Nat) (w : World) (dx hx : Option Addr) (dc hc : Nat) (ks : List KeyV) (ms : List SetM) (h : LayAt F w X dx dc hx hc ks ms) (hok : LayOk ks ms) (hn : ms.length ≤ 1000) :
    Calls Tryz.prog 19 #[.pointer (some ⟨X, 0, none⟩)] w fun e w' => ∃ v ms', e = .returned v ∧ ms'.map (·.x) = ms.map (·.x) ∧ SetsAt w.heap.size w' v ms' ∧ Below w.heap.size w w' ∧ NewW w.heap.size ms' := by
  have HST : Hid (∀ W, Below w.heap.size w W → ∀ i (hi : i < ms.length), Calls Tryz.prog 42 #[.pointer (some ⟨X, 0, none⟩), .int .i64 i] W fun e w' => ∃ y d, e = .returned (.agg #[.string (ms[i]).x.name, .int .i64 (ms[i]).x.val.kind, .int .i64 (ms[i]).x.val.int, .string (ms[i]).x.val.text, .slice y (ms[i]).x.val.words.length d, .int .i64 (ms[i]).x.from_]) ∧ w'.ownsRow W.heap.size 9 1 (.slice y (ms[i]).x.val.words.length d) (ms[i]).x.val.words.length ((ms[i]).x.val.words.map Value.string) ∧ Below W.heap.size W w') := Lib.hid fun W hb i hi =>
    lsetting_any F X W dx hx dc hc ks ms (h.below hb) hok i hi
  obtain ⟨n, hn'⟩ : ∃ n, ms.length = n := ⟨_, rfl⟩
  have HN := Lib.hid hn'
  have x1 := h.cells.2
  have hmk := run_madeS w n (by omega)
  have H0 : Hid (SetsAt w.heap.size (w.alloc (Obj.cells (sFlat (List.replicate n zS)).toArray 50)) (.slice (some ⟨w.heap.size, 0, none⟩) n n) (List.replicate n zS) ∧ Below w.heap.size w (w.alloc (Obj.cells (sFlat (List.replicate n zS)).toArray 50)) ∧ NewW w.heap.size (List.replicate n zS)) := Lib.hid ⟨SetsAt.made w n (by omega), below_one w _, NewW.zero _ _⟩
  rw [hn'] at x1 hn
  clear h hok hn'
  go_enter Tryz.func19, Tryz.ntmps19
  go_wp2
  clear hmk
  go_loopw [13] (fun i wr => ∃ (k : Nat) (ls : List SetM), i = .int .i64 k ∧ k ≤ n ∧ ls.length = n ∧ (ls.take k).map (·.x) = (ms.take k).map (·.x) ∧ Hid (SetsAt w.heap.size wr (.slice (some ⟨w.heap.size, 0, none⟩) n n) ls ∧ Below w.heap.size w wr ∧ NewW w.heap.size ls)) (fun i _ => n - (intOf i).toNat)
  case atStart => exact ⟨0, List.replicate n zS, rfl, by omega, by simp, rfl, H0⟩
  case round =>
    clear H0 x1
    obtain ⟨k, ls, rfl, hk, hll, hlx, HR⟩ := hrel
    have HLX := Lib.hid hlx
    have HLL := Lib.hid hll
    clear hlx
    by_cases hlt : k < n
    · have q1 : (0 : Int) ≤ k := by omega
      have q2 : (k : Int) < n := by omega
      have hkm : k < ms.length := by rw [HN.out]; exact hlt
      have hkl : k < ls.length := by rw [hll]; exact hlt
      have HC := Lib.hid (HST.out wr HR.out.2.1 k hkm)
      have htk : (ms.take (k + 1)).map (·.x) = (ms.take k).map (·.x) ++ [ms[k].x] := by rw [List.take_succ_eq_append_getElem hkm, List.map_append]; rfl
      generalize ms[k] = m at *
      obtain ⟨⟨nm, ⟨kd, it, tx, ws⟩, fr⟩, a, mc⟩ := m
      simp only at HC htk
      obtain ⟨nw, hnw⟩ : ∃ nw, ws.length = nw := ⟨_, rfl⟩
      have HNW := Lib.hid hnw
      rw [hnw] at HC
      have HTK := Lib.hid htk
      clear htk hnw hkm hll
      have HEND : Hid (∀ w2 y d, Below wr.heap.size wr w2 → w2.ownsRow wr.heap.size 9 1 (.slice y nw d) nw (ws.map Value.string) → SetsAt w.heap.size ((((((w2.setCell ⟨w.heap.size, k * 6, none⟩ (.string nm)).setCell ⟨w.heap.size, k * 6 + 1, none⟩ (.int .i64 kd)).setCell ⟨w.heap.size, k * 6 + 2, none⟩ (.int .i64 it)).setCell ⟨w.heap.size, k * 6 + 3, none⟩ (.string tx)).setCell ⟨w.heap.size, k * 6 + 4, none⟩ (.slice y nw d)).setCell ⟨w.heap.size, k * 6 + 5, none⟩ (.int .i64 fr)) (.slice (some ⟨w.heap.size, 0, none⟩) n n) (ls.set k ⟨⟨nm, ⟨kd, it, tx, ws⟩, fr⟩, y, d⟩) ∧ Below w.heap.size w ((((((w2.setCell ⟨w.heap.size, k * 6, none⟩ (.string nm)).setCell ⟨w.heap.size, k * 6 + 1, none⟩ (.int .i64 kd)).setCell ⟨w.heap.size, k * 6 + 2, none⟩ (.int .i64 it)).setCell ⟨w.heap.size, k * 6 + 3, none⟩ (.string tx)).setCell ⟨w.heap.size, k * 6 + 4, none⟩ (.slice y nw d)).setCell ⟨w.heap.size, k * 6 + 5, none⟩ (.int .i64 fr)) ∧
          NewW w.heap.size (ls.set k ⟨⟨nm, ⟨kd, it, tx, ws⟩, fr⟩, y, d⟩) ∧ (∀ j, j < 6 → ∃ u, w2.cell? ⟨w.heap.size, k * 6 + j, none⟩ = some u) ∧ ∀ j, w2.frozen? ⟨w.heap.size, j, none⟩ = false) := Lib.hid fun w2 y d hb hr => by
        have h2 := HR.out.1.below hb
        have hb2 := HR.out.2.1.trans (hb.mono HR.out.2.1.size)
        subst HNW
        obtain ⟨p1, p2⟩ := h2.put6 HLL.out hkl nm ⟨kd, it, tx, ws⟩ y d fr hr
        refine ⟨p1, hb2.grown p2 hb2.size (fun q hq => by injection hq with hq; omega), HR.out.2.2.set trivial (fun b off _ e => (by have h3 := (hr.lt b (by simp only at e; subst e; rfl)).1; have := HR.out.2.1.size; omega)), fun j hj => ?_, fun j => by
          have hrow := h2.row
          rw [HLL.out] at hrow
          exact hrow.frozenAt j⟩
        obtain ⟨b, c, hbe, _, hcs⟩ := h2.cells hkl
        injection hbe with hbe _ _
        obtain rfl : w.heap.size = b := by simpa using hbe
        rw [hcs j hj]
        exact ⟨_, List.getElem?_eq_getElem (by simp [sCells]; omega)⟩
      have HLS : Hid (∀ y d, ((ls.set k ⟨⟨nm, ⟨kd, it, tx, ws⟩, fr⟩, y, d⟩).take (k + 1)).map (·.x) = (ms.take (k + 1)).map (·.x)) := Lib.hid fun y d => by
        rw [HTK.out, ← HLX.out, List.take_succ_eq_append_getElem (by rw [List.length_set]; exact hkl), List.map_append, List.getElem_set_self, List.take_set_of_le (Nat.le_refl _)]
        rfl
      clear hkl
      go_wp2_with fail
      refine HC.out.mono ?_
      rintro e w2 ⟨y, d, rfl, hr2, hb2⟩
      have HE := Lib.hid (HEND.out w2 y d hb2 hr2)
      obtain ⟨_, _, _, hce, hfz⟩ := HE.out
      obtain ⟨u0, c0⟩ := hce 0 (by decide)
      obtain ⟨u1, c1⟩ := hce 1 (by decide)
      obtain ⟨u2, c2⟩ := hce 2 (by decide)
      obtain ⟨u3, c3⟩ := hce 3 (by decide)
      obtain ⟨u4, c4⟩ := hce 4 (by decide)
      obtain ⟨u5, c5⟩ := hce 5 (by decide)
      rw [Nat.add_zero] at c0
      have f0 := hfz (k * 6)
      have f1 := hfz (k * 6 + 1)
      have f2 := hfz (k * 6 + 2)
      have f3 := hfz (k * 6 + 3)
      have f4 := hfz (k * 6 + 4)
      have f5 := hfz (k * 6 + 5)
      clear hce hfz hr2 hb2 HC HEND HR
      go_wp2
      go_roundw
      case rel => exact ⟨k + 1, _, by go_num, by omega, by rw [List.length_set]; exact HLL.out, HLS.out y d, Lib.hid ⟨HE.out.1, HE.out.2.1, HE.out.2.2.1⟩⟩
      case measure => simp [intOf]; omega
    · obtain rfl : k = n := by omega
      have q2 : ¬ (k : Int) < k := by omega
      have HL2 : Hid (ls.map (·.x) = ms.map (·.x)) := Lib.hid (by
        have := HLX.out
        rw [List.take_of_length_le (by rw [HLL.out]; exact Nat.le_refl _), List.take_of_length_le (by rw [HN.out]; exact Nat.le_refl _)] at this
        exact this)
      go_wp2
      go_ret
      exact ⟨_, rfl, ls, HL2.out, HR.out.1, HR.out.2.1, HR.out.2.2⟩
end Go.Proofs.YtopghlnoklajkaaGreatDoor

namespace Go.Proofs.YtopghlnoklajkaaGreatDoor
open Go.ChangeShapes Go.WideShapes Go.ChangeAt Go.RowKit

/-- Settings that are read, wherever their list begins. -/
def SRd (w : World) (x : Option Addr) (ls : List SetM) : Prop := ∀ k (h : k < ls.length), ∃ b off, x = some ⟨b, off, none⟩ ∧ b < w.heap.size ∧ (∀ j, j < 6 → w.cell? ⟨b, off + k * 6 + j, none⟩ = (sCells ls[k])[j]?) ∧ TxAt w ls[k].a ls[k].x.val.words
theorem SRd.below {w w' : World} {x : Option Addr} {ls : List SetM} (h : SRd w x ls) (hb : Below w.heap.size w w') : SRd w' x ls := fun k hk => by
  obtain ⟨b, off, e, hl, hc, ht⟩ := h k hk
  exact ⟨b, off, e, Nat.lt_of_lt_of_le hl hb.size, fun j hj => (hb.cell (p := ⟨b, _, none⟩) hl).trans (hc j hj), ht.below hb⟩
theorem SetsAt.one {B g n c : Nat} {w : World} {ls : List SetM} (h : SetsAt B w (.slice (some ⟨g, 0, none⟩) n c) ls) {i : Nat} (hi : i < ls.length) : SRd w (some ⟨g, i * 6, none⟩) [ls[i]] := fun k hk => by
  obtain rfl : k = 0 := by simpa using hk
  obtain ⟨b, c', e, hl, hcs⟩ := h.cells hi
  injection e with e _ _
  injection e with e
  injection e with e _ _
  subst e
  exact ⟨g, i * 6, rfl, hl, fun j hj => by rw [Nat.zero_mul, Nat.add_zero]; exact hcs j hj, (h.wds _ (List.getElem_mem hi)).1⟩
set_option maxHeartbeats 6400000 in
set_option maxRecDepth 100000 in
theorem rsettingsR_any (ls ms : List SetM) (n : Nat) (x y : Option Addr) (c d : Nat) (w : World) (ha : SRd w x ls) (hb : SRd w y ms) (he : ls.map (·.x) = ms.map (·.x)) (hn : ls.length = n) (hm : n ≤ 1000) (hr : ∀ m ∈ ms, rightV m.x.val = true) :
    Calls Tryz.prog 18 #[.slice x n c, .slice y n d] w fun e w' => e = .returned (.bool true) ∧ Below w.heap.size w w' := by
  have HA := Lib.hid ha
  have HB := Lib.hid hb
  have HE := Lib.hid he
  have HN := Lib.hid (And.intro hn (show ms.length = n by rw [← len_same he]; exact hn))
  have HR := Lib.hid hr
  clear ha hb hn he hr
  go_enter Tryz.func18, Tryz.ntmps18
  go_wp2
  go_loopw [5] (fun i wr => ∃ t : Nat, i = .int .i64 t ∧ t ≤ n ∧ Hid (Below w.heap.size w wr)) (fun i _ => n - (intOf i).toNat)
  case atStart => exact ⟨0, rfl, by omega, Lib.hid (Below.refl _ _)⟩
  case round =>
    obtain ⟨t, rfl, ht, HK⟩ := hrel
    by_cases hlt : t < n
    · have hl1 : t < ls.length := by rw [HN.out.1]; exact hlt
      have hl2 : t < ms.length := by rw [HN.out.2]; exact hlt
      obtain ⟨b1, o1, hv1, _, hc1, hw1⟩ := (HA.out.below HK.out) t hl1
      obtain ⟨b2, o2, hv2, _, hc2, hw2⟩ := (HB.out.below HK.out) t hl2
      have hx := map_at HE.out t hl1 hl2
      have hrt := HR.out _ (List.getElem_mem hl2)
      have hwl := (right_bounds hrt).1
      have e0 := hc1 0 (by decide)
      have e1 := hc1 1 (by decide)
      have e2 := hc1 2 (by decide)
      have e3 := hc1 3 (by decide)
      have e4 := hc1 4 (by decide)
      have e5 := hc1 5 (by decide)
      have f0 := hc2 0 (by decide)
      have f1 := hc2 1 (by decide)
      have f2 := hc2 2 (by decide)
      have f3 := hc2 3 (by decide)
      have f4 := hc2 4 (by decide)
      have f5 := hc2 5 (by decide)
      rw [Nat.add_zero] at e0 f0
      generalize ls[t] = m1 at *
      generalize ms[t] = m2 at *
      obtain ⟨⟨nm, ⟨kd, it, tx, ws⟩, fr⟩, a1, k1⟩ := m1
      obtain ⟨mx, a2, k2⟩ := m2
      simp only at hx
      subst hx
      simp only [sCells, List.getElem?_cons_zero, List.getElem?_cons_succ] at e0 e1 e2 e3 e4 e5 f0 f1 f2 f3 f4 f5
      simp only at hw1 hw2 hwl
      subst hv1 hv2
      have q1 : (0 : Int) ≤ t := by omega
      have q2 : (t : Int) < n := by omega
      obtain ⟨nw, hnw⟩ : ∃ nw, ws.length = nw := ⟨_, rfl⟩
      have HT : Hid (∀ W, Below wr.heap.size wr W → Calls Tryz.prog 11 #[.slice a1 nw k1, .slice a2 nw k2] W fun e w' => e = .returned (.bool true) ∧ Below W.heap.size W w') := Lib.hid fun W hb => by
        have := rtexts_any ws a1 a2 k1 k2 W (hw1.below hb) (hw2.below hb) (by omega)
        rw [hnw] at this
        exact this
      rw [hnw] at e4 f4
      have HBD : Hid (Below wr.heap.size wr wr.drew) := Lib.hid (below_drewN wr 1)
      clear hc1 hc2 hw1 hw2 hrt hwl hl1 hl2 hnw
      go_wp2
      go_region_held3 (fun W => W.cell? ⟨b1, o1 + t * 6, none⟩ = some (.string nm) ∧ W.cell? ⟨b1, o1 + t * 6 + 1, none⟩ = some (.int .i64 kd) ∧ W.cell? ⟨b1, o1 + t * 6 + 2, none⟩ = some (.int .i64 it) ∧ W.cell? ⟨b1, o1 + t * 6 + 3, none⟩ = some (.string tx) ∧ W.cell? ⟨b1, o1 + t * 6 + 4, none⟩ = some (.slice a1 nw k1) ∧ W.cell? ⟨b1, o1 + t * 6 + 5, none⟩ = some (.int .i64 fr) ∧
          W.cell? ⟨b2, o2 + t * 6, none⟩ = some (.string nm) ∧ W.cell? ⟨b2, o2 + t * 6 + 1, none⟩ = some (.int .i64 kd) ∧ W.cell? ⟨b2, o2 + t * 6 + 2, none⟩ = some (.int .i64 it) ∧ W.cell? ⟨b2, o2 + t * 6 + 3, none⟩ = some (.string tx) ∧ W.cell? ⟨b2, o2 + t * 6 + 4, none⟩ = some (.slice a2 nw k2) ∧ W.cell? ⟨b2, o2 + t * 6 + 5, none⟩ = some (.int .i64 fr)) (first | exact ⟨e0, e1, e2, e3, e4, e5, f0, f1, f2, f3, f4, f5⟩ | exact HF2.out) (first
        | (go_at_call 11; (with_reducible refine (HT.out _ HBD.out).mono ?_); rintro e w2 ⟨rfl, hb2⟩
           have hb3 := HBD.out.trans (hb2.mono HBD.out.size)
           have ck : ∀ {b o : Nat} {v : Value}, wr.cell? ⟨b, o, none⟩ = some v → w2.cell? ⟨b, o, none⟩ = some v := fun {b o v} h => (hb3.cell (p := ⟨b, o, none⟩) (lt_of_cell h)).trans h
           have HF2 := Lib.hid (And.intro (ck e0) (And.intro (ck e1) (And.intro (ck e2) (And.intro (ck e3) (And.intro (ck e4) (And.intro (ck e5) (And.intro (ck f0) (And.intro (ck f1) (And.intro (ck f2) (And.intro (ck f3) (And.intro (ck f4) (ck f5))))))))))))
           clear ck
           have HD := Lib.hid (HK.out.trans (hb3.mono HK.out.size))
           clear hb2 hb3; dsimp only)
        | fail)
      all_goals
        obtain ⟨g0, g1, g2, g3, g4, g5, i0, i1, i2, i3, i4, i5⟩ := HF2.out
        have HD2 : Hid (∀ q, Below w.heap.size w (w2.drewN q)) := Lib.hid fun q => HD.out.trans ((below_drewN w2 q).mono HD.out.size)
        clear e0 e1 e2 e3 e4 e5 f0 f1 f2 f3 f4 f5 HF2 HD HBD HT HK
        go_wp2
        go_quiet (fail)
        go_wp2
        go_roundw
        case rel => exact ⟨t + 1, by go_num, by omega, Lib.hid (HD2.out _)⟩
        case measure => simp [intOf]; omega
    · have q2 : ¬ (t : Int) < n := by omega
      go_wp2
      go_ret
      exact ⟨rfl, HK.out⟩
end Go.Proofs.YtopghlnoklajkaaGreatDoor
