/-
  RefsLaw1.
-/
import Derived.Test.YtopghlnoklajkaaGreatDoorQRefsLaw0
namespace Go.Proofs.YtopghlnoklajkaaGreatDoor
open Go.ChangeShapes Go.WideShapes Go.ChangeAt Go.RowKit

set_option maxHeartbeats 6400000 in
set_option maxRecDepth 100000 in
theorem rsettings_any (ls ms : List SetM) (B1 B2 n : Nat) (x y : Option Addr) (c d : Nat) (w : World) (ha : SetsAt B1 w (.slice x n c) ls) (hb : SetsAt B2 w (.slice y n d) ms) (he : ls.map (·.x) = ms.map (·.x)) (hn : ls.length = n) (hm : n ≤ 1000) (hr : ∀ m ∈ ms, rightV m.x.val = true) :
    Calls Tryz.prog 18 #[.slice x n c, .slice y n d] w fun e w' => e = .returned (.bool true) ∧ Below w.heap.size w w' := by
  have HA := Lib.hid ha
  have HB := Lib.hid hb
  have HE := Lib.hid he
  have HN := Lib.hid (And.intro hn (show ms.length = n by rw [← len_same he]; exact hn))
  have HR := Lib.hid hr
  clear ha hb hn he hr
  go_enter Tryz.func18, Tryz.ntmps18
  go_wp2
  go_loopw [5] (fun i wr => ∃ t : Nat, i = .int .i64 t ∧ t ≤ n ∧ Hid (Below w.heap.size w wr)) (fun i _ => n - (intOf i).toNat)
  case atStart => exact ⟨0, rfl, by omega, Lib.hid (Below.refl _ _)⟩
  case round =>
    obtain ⟨t, rfl, ht, HK⟩ := hrel
    by_cases hlt : t < n
    · have hl1 : t < ls.length := by rw [HN.out.1]; exact hlt
      have hl2 : t < ms.length := by rw [HN.out.2]; exact hlt
      obtain ⟨b1, c1, hv1, _, hc1⟩ := (HA.out.below HK.out).cells hl1
      obtain ⟨b2, c2, hv2, _, hc2⟩ := (HB.out.below HK.out).cells hl2
      injection hv1 with hv1 hq1 hq2
      injection hv2 with hv2 hq3 hq4
      clear hq1 hq2 hq3 hq4
      have hx := map_at HE.out t hl1 hl2
      have hw1 := ((HA.out.below HK.out).wds _ (List.getElem_mem hl1)).1
      have hw2 := ((HB.out.below HK.out).wds _ (List.getElem_mem hl2)).1
      have hrt := HR.out _ (List.getElem_mem hl2)
      have hwl := (right_bounds hrt).1
      have e0 := hc1 0 (by decide)
      have e1 := hc1 1 (by decide)
      have e2 := hc1 2 (by decide)
      have e3 := hc1 3 (by decide)
      have e4 := hc1 4 (by decide)
      have e5 := hc1 5 (by decide)
      have f0 := hc2 0 (by decide)
      have f1 := hc2 1 (by decide)
      have f2 := hc2 2 (by decide)
      have f3 := hc2 3 (by decide)
      have f4 := hc2 4 (by decide)
      have f5 := hc2 5 (by decide)
      rw [Nat.add_zero] at e0 f0
      generalize ls[t] = m1 at *
      generalize ms[t] = m2 at *
      obtain ⟨⟨nm, ⟨kd, it, tx, ws⟩, fr⟩, a1, k1⟩ := m1
      obtain ⟨mx, a2, k2⟩ := m2
      simp only at hx
      subst hx
      simp only [sCells, List.getElem?_cons_zero, List.getElem?_cons_succ] at e0 e1 e2 e3 e4 e5 f0 f1 f2 f3 f4 f5
      simp only at hw1 hw2 hwl
      subst hv1 hv2
      have q1 : (0 : Int) ≤ t := by omega
      have q2 : (t : Int) < n := by omega
      obtain ⟨nw, hnw⟩ : ∃ nw, ws.length = nw := ⟨_, rfl⟩
      have HT : Hid (∀ W, Below wr.heap.size wr W → Calls Tryz.prog 11 #[.slice a1 nw k1, .slice a2 nw k2] W fun e w' => e = .returned (.bool true) ∧ Below W.heap.size W w') := Lib.hid fun W hb => by
        have := rtexts_any ws a1 a2 k1 k2 W (hw1.below hb) (hw2.below hb) (by omega)
        rw [hnw] at this
        exact this
      rw [hnw] at e4 f4
      have HBD : Hid (Below wr.heap.size wr wr.drew) := Lib.hid (below_drewN wr 1)
      clear hc1 hc2 hw1 hw2 hrt hwl hl1 hl2 hnw
      go_wp2
      go_region_held3 (fun W => W.cell? ⟨b1, t * 6, none⟩ = some (.string nm) ∧ W.cell? ⟨b1, t * 6 + 1, none⟩ = some (.int .i64 kd) ∧ W.cell? ⟨b1, t * 6 + 2, none⟩ = some (.int .i64 it) ∧ W.cell? ⟨b1, t * 6 + 3, none⟩ = some (.string tx) ∧ W.cell? ⟨b1, t * 6 + 4, none⟩ = some (.slice a1 nw k1) ∧ W.cell? ⟨b1, t * 6 + 5, none⟩ = some (.int .i64 fr) ∧
          W.cell? ⟨b2, t * 6, none⟩ = some (.string nm) ∧ W.cell? ⟨b2, t * 6 + 1, none⟩ = some (.int .i64 kd) ∧ W.cell? ⟨b2, t * 6 + 2, none⟩ = some (.int .i64 it) ∧ W.cell? ⟨b2, t * 6 + 3, none⟩ = some (.string tx) ∧ W.cell? ⟨b2, t * 6 + 4, none⟩ = some (.slice a2 nw k2) ∧ W.cell? ⟨b2, t * 6 + 5, none⟩ = some (.int .i64 fr)) (first | exact ⟨e0, e1, e2, e3, e4, e5, f0, f1, f2, f3, f4, f5⟩ | exact HF2.out) (first
        | (go_at_call 11; (with_reducible refine (HT.out _ HBD.out).mono ?_); rintro e w2 ⟨rfl, hb2⟩
           have hb3 := HBD.out.trans (hb2.mono HBD.out.size)
           have ck : ∀ {b o : Nat} {v : Value}, wr.cell? ⟨b, o, none⟩ = some v → w2.cell? ⟨b, o, none⟩ = some v := fun {b o v} h => (hb3.cell (p := ⟨b, o, none⟩) (lt_of_cell h)).trans h
           have HF2 := Lib.hid (And.intro (ck e0) (And.intro (ck e1) (And.intro (ck e2) (And.intro (ck e3) (And.intro (ck e4) (And.intro (ck e5) (And.intro (ck f0) (And.intro (ck f1) (And.intro (ck f2) (And.intro (ck f3) (And.intro (ck f4) (ck f5))))))))))))
           clear ck
           have HD := Lib.hid (HK.out.trans (hb3.mono HK.out.size))
           clear hb2 hb3; dsimp only)
        | fail)
      all_goals
        obtain ⟨g0, g1, g2, g3, g4, g5, i0, i1, i2, i3, i4, i5⟩ := HF2.out
        have HD2 : Hid (∀ q, Below w.heap.size w (w2.drewN q)) := Lib.hid fun q => HD.out.trans ((below_drewN w2 q).mono HD.out.size)
        clear e0 e1 e2 e3 e4 e5 f0 f1 f2 f3 f4 f5 HF2 HD HBD HT HK
        go_wp2
        go_quiet (fail)
        go_wp2
        go_roundw
        case rel => exact ⟨t + 1, by go_num, by omega, Lib.hid (HD2.out _)⟩
        case measure => simp [intOf]; omega
    · have q2 : ¬ (t : Int) < n := by omega
      go_wp2
      go_ret
      exact ⟨rfl, HK.out⟩
end Go.Proofs.YtopghlnoklajkaaGreatDoor
