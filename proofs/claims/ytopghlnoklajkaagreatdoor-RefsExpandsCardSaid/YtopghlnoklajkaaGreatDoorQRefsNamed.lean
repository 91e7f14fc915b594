/-
  RefsNamed.
-/
import Derived.Test.YtopghlnoklajkaaGreatDoorQRefsExpK
namespace Go.Proofs.YtopghlnoklajkaaGreatDoor
open Go.ChangeShapes Go.WideShapes Go.ChangeAt Go.RowKit

theorem piecesS_is {ms : List SetM} {i : Nat} (hi : i < ms.length) (hr : rightV ms[i].x.val = true) : piecesS ms[i].x = piecesB (Tx ms i) := by
 rw [Tx_at hi]
 generalize ms[i].x = x at *
 unfold piecesS printR
 rw [hr]
 by_cases h5 : x.val.kind = 5
 ·rw [if_pos h5]
  unfold printV
  simp [h5]
 ·rw [if_neg h5]
  simp only [if_true]
  rw [pieces_noD (print_noD hr h5)]
section
variable {w1 wr w' : World} {X n kp ke km kt kd : Nat} {lv pv ev mv tv dv v' : Value} {P : Nat → List PcB} {ps : List Value} {gl : List Nat} {o : Obj}
theorem WkAt.pieces (h : WkAt w1 X n lv P wr kp ke km kt kd pv ev mv tv dv ps gl) (hk : 0 < kp) : ∃ pb pc, pv = .slice (some ⟨pb, 0, none⟩) kp pc ∧ ∀ i, i < kp → ∃ xb xc, wr.cell? ⟨pb, i, none⟩ = some (.slice xb (P i).length xc) ∧ ∀ q (h : q < (P i).length), ∃ b, xb = some ⟨b, 0, none⟩ ∧ wr.cell? ⟨b, q * 2, none⟩ = some (.string ⟨(P i)[q].1.toArray⟩) ∧ wr.cell? ⟨b, q * 2 + 1, none⟩ = some (.bool (P i)[q].2) := by
 rcases h.prow.2 with ⟨_, h0⟩ | ⟨g, cap, cur, hv, _⟩
 ·omega
 ·refine ⟨g, cap, hv, fun i hi => ?_⟩
  obtain ⟨v, h1, h2⟩ := h.pcs i hi
  obtain ⟨xb, xc, rfl⟩ := own_form h2
  have hp := h.prow
  rw [hv] at hp
  refine ⟨xb, xc, by rw [hp.cellAt i (by omega)]; exact h1, fun q hq => ?_⟩
  rcases h2.2 with ⟨_, h0⟩ | ⟨b, cap2, cur2, hv2, _⟩
  ·omega
  ·injection hv2 with e1 e2 e3
   subst e1
   refine ⟨b, rfl, ?_, ?_⟩
   ·have := h2.cellAt (q * 2) (by omega)
    rw [this, show q * 2 = q * 2 + 0 from rfl, pFlat_at (P i) q hq 0 (by decide)]; rfl
   ·rw [h2.cellAt (q * 2 + 1) (by omega), pFlat_at (P i) q hq 1 (by decide)]; rfl
end
def NdRes (w1 : World) (X : Nat) (lv : Value) (ms : List SetM) (e : Ending) (w' : World) : Prop := Below X w1 w' ∧
 match fBad ms with
 | some k => e = .returned (.tuple #[.int .i64 100, .string (nameAt ms k)])
 | none => match fName ms with
  | some k => e = .returned (.tuple #[.int .i64 101, .string (nameAt ms k)])
  | none => e = .returned (.tuple #[.int .i64 0, .string ⟨#[]⟩]) ∧ ∃ pv ev mv tv dv ps gl, WkAt w1 X ms.length lv (Px ms) w' ms.length ms.length ms.length ms.length ms.length pv ev mv tv dv ps gl
theorem placeN_neg {ns : List ByteArray} {l : List UInt8} (h : plO ns l = none) : placeN ns ⟨l.toArray⟩ < 0 := by
 unfold plO at h
 split at h
 ·cases h
 ·omega
theorem placeN_some {ns : List ByteArray} {l : List UInt8} {k : Nat} (h : plO ns l = some k) : placeN ns ⟨l.toArray⟩ = (k : Int) := by
 unfold plO at h
 split at h
 ·injection h with h; omega
 ·cases h
set_option maxHeartbeats 6400000 in
set_option maxRecDepth 100000 in
theorem named_any (B X : Nat) (w1 w2 : World) (lv : Value) (ms : List SetM) (hX : w1.heap.size = X) (hall : SetsAt B w1 lv ms) (hok : MsOk ms) (h0 : WkAt w1 X ms.length lv (Px ms) w2 0 0 0 0 0 (.slice none 0 0) (.slice none 0 0) (.slice none 0 0) (.slice none 0 0) (.slice none 0 0) [] []) :
  Calls Tryz.prog 38 #[.pointer (some ⟨X, 0, none⟩)] w2 (NdRes w1 X lv ms) := by
 obtain ⟨n, hn⟩ : ∃ n, ms.length = n := ⟨_, rfl⟩
 have hn2 : n ≤ 1000 := by rw [← hn]; exact hok.few
 have HALL : Hid (∀ W, Below X w1 W → SetsAt B W lv ms) := Lib.hid fun W hW => hall.below (by rw [hX]; exact hW)
 have HPL : Hid (∀ W, WObj W X lv (.slice none 0 0) (.slice none 0 0) (.slice none 0 0) (.slice none 0 0) (.slice none 0 0) → True) := Lib.hid fun _ _ => trivial
 have HN := Lib.hid hn
 have HOK := Lib.hid hok
 have H0 : Hid (WkAt w1 X n lv (Px ms) w2 0 0 0 0 0 (.slice none 0 0) (.slice none 0 0) (.slice none 0 0) (.slice none 0 0) (.slice none 0 0) [] [] ∧ ∀ j, j < 0 → (piecesB (Tx ms j)).isNone = false) := Lib.hid ⟨by rw [← hn]; exact h0, fun j hj => by omega⟩
 have HX := Lib.hid hX
 obtain ⟨lx, lc, hlv⟩ := hall.form
 rw [hn] at hlv
 subst hlv
 clear HPL hall hok h0 hn hX
 go_enter Tryz.func38, Tryz.ntmps38
 go_wp2
 go_loopw [4, 5, 6] (fun i _ _ wr => ∃ (k : Nat) (pv ev mv tv dv : Value) (ps : List Value) (gl : List Nat), i = .int .i64 k ∧ k ≤ n ∧ Hid (WkAt w1 X n (.slice lx n lc) (Px ms) wr k k k k k pv ev mv tv dv ps gl ∧ ∀ j, j < k → (piecesB (Tx ms j)).isNone = false)) (fun i _ _ _ => n - (intOf i).toNat)
 case atStart => exact ⟨0, _, _, _, _, _, _, _, rfl, by omega, H0⟩
 case round =>
  clear H0
  obtain ⟨k, pv, ev, mv, tv, dv, ps, gl, rfl, hk, HK⟩ := hrel
  obtain ⟨x0, x1, _, _, _, _⟩ := HK.out.1.obj.cells
  by_cases hlt : k < n
  ·have q1 : (0 : Int) ≤ k := by omega
   have q2 : (k : Int) < n := by omega
   have hkm : k < ms.length := by rw [HN.out]; exact hlt
   obtain ⟨b, c, hbe, _, hcs⟩ := (HALL.out _ HK.out.1.below).cells hkm
   injection hbe with hbe hx1 hx2
   have e0 := hcs 0 (by decide)
   have e1 := hcs 1 (by decide)
   have e2 := hcs 2 (by decide)
   have e3 := hcs 3 (by decide)
   have e4 := hcs 4 (by decide)
   have e5 := hcs 5 (by decide)
   rw [Nat.add_zero] at e0
   have hwd := (HALL.out _ HK.out.1.below).wds _ (List.getElem_mem hkm)
   have hrb := right_bounds (HOK.out.right _ (List.getElem_mem hkm))
   have hpi := piecesS_is hkm (HOK.out.right _ (List.getElem_mem hkm))
   have hnm : nameAt ms k = ms[k].x.name := by unfold nameAt namesM; rw [List.getD_eq_getElem?_getD, List.getElem?_map, List.getElem?_eq_getElem hkm]; rfl
   have hpc := refPiecesS_any wr ms[k] hwd.1 hwd.2.1 (by omega) (fun j hj => Nat.le_trans (hrb.2.1 j hj) (by decide)) (by omega)
   rw [hpi] at hpc
   have hlat : ∀ W, Below wr.heap.size wr W → W.cell? ⟨b, k * 6, none⟩ = some (.string ms[k].x.name) := fun W hW => (hW.cell (p := ⟨b, k * 6, none⟩) (lt_of_cell e0)).trans e0
   generalize ms[k] = m at *
   obtain ⟨⟨nm, ⟨kd, it, tx, ws⟩, fr⟩, a, mc⟩ := m
   simp only [sCells, List.getElem?_cons_zero, List.getElem?_cons_succ] at hpc e0 e1 e2 e3 e4 e5 hnm hlat
   have HPC := Lib.hid hpc
   have HNM := Lib.hid hnm
   have HLAT := Lib.hid hlat
   clear hwd hrb hpi hnm hpc hlat
   generalize ws.length = nw at *
   subst hbe
   obtain ⟨R, hR⟩ : ∃ R, piecesB (Tx ms k) = R := ⟨_, rfl⟩
   rw [hR] at HPC
   have HR := Lib.hid hR
   have HX0 := Lib.hid x0
   clear hcs hx1 hx2 hR hkm
   go_wp2_with fail
   refine HPC.out.mono ?_
   rintro e w3 ⟨hb3, h3⟩
   cases R with
   | none =>
    simp only at h3
    subst h3
    have HE : Hid (∀ w', Below X w1 w' → NdRes w1 X (.slice (some ⟨b, 0, none⟩) n lc) ms (.returned (.tuple #[.int .i64 100, .string nm])) w') := Lib.hid fun w' hb => by
     refine ⟨hb, ?_⟩
     have : fBad ms = some k := firstB_some (fun j hj => HK.out.2 j hj) (by rw [HN.out]; exact hlt) (by rw [HR.out]; rfl)
     rw [this]
     simp only [HNM.out]
    have g0 : w3.drew.cell? ⟨b, k * 6, none⟩ = some (.string nm) := HLAT.out w3 hb3
    have g1 : w3.drew.cell? ⟨X, 0, none⟩ = some (.slice (some ⟨b, 0, none⟩) n lc) := (hb3.cell (p := ⟨X, 0, none⟩) HK.out.1.lt).trans HX0.out
    have HB3 : Hid (Below X w1 w3.drew) := Lib.hid (HK.out.1.below.trans ((hb3.trans (below_drewN w3 1 |>.mono hb3.size)).mono (Nat.le_of_lt HK.out.1.lt)))
    clear hb3
    go_wp2
    go_region
    all_goals
     go_wp2
     go_ret2
     exact HE.out _ HB3.out
   | some l =>
    simp only at h3
    obtain ⟨v, rfl, hrow⟩ := h3
    have hpx : Px ms k = l := Px_is HR.out
    have hK3 := HK.out.1.to hb3
    have hrow3 : w3.ownsRow (X + 1) 71 2 v (Px ms k).length (pFlat (Px ms k)) := by rw [hpx]; exact ownLess hrow HK.out.1.lt
    have HK3 := Lib.hid (And.intro hK3 hrow3)
    have HOKK : Hid (∀ j, j < k + 1 → (piecesB (Tx ms j)).isNone = false) := Lib.hid fun j hj => by
     by_cases e : j = k
     ·subst e; rw [HR.out]; rfl
     ·exact HK.out.2 j (by omega)
    obtain ⟨vx, vc, rfl⟩ := own_form hrow
    obtain ⟨z, hz⟩ : ∃ z, l.length = z := ⟨_, rfl⟩
    rw [hz] at HK3
    have HP3 : Hid (w3.ownsRow (X + 1) 67 1 pv k ps ∧ X + 1 ≤ w3.heap.size) := Lib.hid ⟨hK3.prow, hK3.lt⟩
    obtain ⟨y0, y1, _, _, _, _⟩ := hK3.obj.cells
    have HEP : Hid (∀ (o : Obj) (y cap : Nat) (w4 : World), w4.ownsRow (X + 1) 67 1 (.slice (some ⟨y, 0, none⟩) (k + 1) cap) (k + 1) (ps ++ [.slice vx z vc]) → (w3.alloc o).grownBy w4 pv.ownBlock → (∃ u0, w4.cell? ⟨X, 1, none⟩ = some u0) ∧ w4.frozen? ⟨X, 1, none⟩ = false ∧ WkAt w1 X n (.slice (some ⟨b, 0, none⟩) n lc) (Px ms) (w4.setCell ⟨X, 1, none⟩ (.slice (some ⟨y, 0, none⟩) (k + 1) cap)) (k + 1) k k k k (.slice (some ⟨y, 0, none⟩) (k + 1) cap) ev mv tv dv (ps ++ [.slice vx z vc]) gl) := Lib.hid fun o y cap w4 h1 h2 =>
     HK3.out.1.stepP HK3.out.2 h1 (grownAlloc h2)
    rw [hz]
    clear hz hrow hpx hK3 hrow3 hb3 HPC HLAT HNM HK x0 x1 e0 e1 e2 e3 e4 e5
    go_wp2_with (at_builtin; refine appendWkP rfl _ _ rfl HP3.out.1 HP3.out.2 (by omega) rfl rfl rfl (by simp) ?_; intro y cap w4 h1 h2 h3; obtain ⟨⟨u4, c4⟩, f4, hk4⟩ := HEP.out _ _ _ _ h1 h2; have HK4 := Lib.hid hk4; clear h1 h2 h3 hk4)
    clear HP3 HEP u4 c4 f4 HK3 y0 y1
    generalize w4.setCell ⟨X, 1, none⟩ (.slice (some ⟨y, 0, none⟩) (k + 1) cap) = w5 at *
    generalize hpv : Value.slice (some ⟨y, 0, none⟩) (k + 1) cap = pv5 at *
    have hmk : ∀ W : World, (Instr.makeSlice 53 (.int .i64 (n : Int)) (.int .i64 (n : Int))).run Tryz.prog W = .ok (.slice (some ⟨W.heap.size, 0, none⟩) n n) (W.alloc (Obj.cells (List.replicate n (Value.bool false)).toArray 4)) := fun W => run_madeBL W n (by omega)
    obtain ⟨z0, _, z2, _, _, _⟩ := HK4.out.obj.cells
    have hX5 := HK4.out.lt
    have d0 : w5.drew.cell? ⟨X, 0, none⟩ = some (.slice (some ⟨b, 0, none⟩) n lc) := z0
    have d2 : w5.drew.cell? ⟨X, 2, none⟩ = some ev := z2
    have HB5 : Hid (∀ o1 o2, Below w5.heap.size w5 ((w5.alloc o1).alloc o2).drew) := Lib.hid fun o1 o2 => ((below_one w5 o1).trans ((below_one _ o2).mono (below_one w5 o1).size)).trans ((below_drewN _ 1).mono (by simp; omega))
    have s0 : ∀ o, (w5.alloc o).drew.cell? ⟨X, 0, none⟩ = some (.slice (some ⟨b, 0, none⟩) n lc) := fun o => ((below_one w5 o).cell (p := ⟨X, 0, none⟩) hX5).trans z0
    have s2 : ∀ o, (w5.alloc o).drew.cell? ⟨X, 2, none⟩ = some ev := fun o => ((below_one w5 o).cell (p := ⟨X, 2, none⟩) hX5).trans z2
    have t2 : ∀ o1 o2, ((w5.alloc o1).alloc o2).drew.cell? ⟨X, 2, none⟩ = some ev := fun o1 o2 => ((HB5.out o1 o2).cell (p := ⟨X, 2, none⟩) hX5).trans z2
    have HE5 : Hid (∀ o1 o2, ((w5.alloc o1).alloc o2).drew.ownsRow (X + 1) 53 1 ev k (gl.map fun g => Value.slice (some ⟨g, 0, none⟩) n n) ∧ X + 1 ≤ ((w5.alloc o1).alloc o2).drew.heap.size) := Lib.hid fun o1 o2 => ⟨rowBelow HK4.out.erow (HB5.out o1 o2), Nat.le_trans hX5 (HB5.out o1 o2).size⟩
    have HKC : Hid (∀ o1 u, ((w5.alloc o1).alloc (Obj.cells #[u] 53)).drew.cell? ⟨w5.heap.size + 1, 0, none⟩ = some u) := Lib.hid fun o1 u => by
     show ((w5.alloc o1).alloc (Obj.cells #[u] 53)).cell? ⟨w5.heap.size + 1, 0, none⟩ = some u
     have := cell_of_row ((w5.alloc o1).alloc (Obj.cells #[u] 53)) (w5.heap.size + 1) 0 #[u] _ _ (by have := heap_alloc_new (w5.alloc o1) (Obj.cells #[u] 53); simpa using this)
     rw [this]; rfl
    have HEE : Hid (∀ o2 y cap w6, w6.ownsRow (X + 1) 53 1 (.slice (some ⟨y, 0, none⟩) (k + 1) cap) (k + 1) ((gl.map fun g => Value.slice (some ⟨g, 0, none⟩) n n) ++ [Value.slice (some ⟨w5.heap.size, 0, none⟩) n n]) → (((w5.alloc (Obj.cells (List.replicate n (Value.bool false)).toArray 4)).alloc o2).drew).grownBy w6 ev.ownBlock →
      (∃ u0, w6.cell? ⟨X, 2, none⟩ = some u0) ∧ w6.frozen? ⟨X, 2, none⟩ = false ∧ WkAt w1 X n (.slice (some ⟨b, 0, none⟩) n lc) (Px ms) (w6.setCell ⟨X, 2, none⟩ (.slice (some ⟨y, 0, none⟩) (k + 1) cap)) (k + 1) (k + 1) k k k pv5 (.slice (some ⟨y, 0, none⟩) (k + 1) cap) mv tv dv (ps ++ [.slice vx z vc]) (gl ++ [w5.heap.size])) := Lib.hid fun o2 y cap w6 h1 h2 => by
     refine (HK4.out.to (HB5.out _ o2)).stepE (gn := w5.heap.size) hX5 ?_ (fun g hg e => by have := heap_ltF (HK4.out.gat g hg).2; omega) (fun e => by have := (HK4.out.drow.lt _ e).2; omega) h1 h2
     show ((w5.alloc _).alloc o2).heap[w5.heap.size]? = _
     have h3 := heap_alloc_new w5 (Obj.cells (List.replicate n (Value.bool false)).toArray 4)
     rw [(below_one (w5.alloc _) o2).block w5.heap.size (by simp)]
     exact h3
    clear z0 z2 HK4 hpv
    go_wp2
    go_region_law (first
     | (refine stepWkE rfl _ _ rfl (HE5.out _ _).1 (HE5.out _ _).2 (by omega) rfl rfl rfl (HKC.out _ _) ?_; intro y6 cap6 w6 h1 h2 h3; obtain ⟨⟨u6, c6⟩, f6, hk6⟩ := HEE.out _ _ _ _ h1 h2; have HK6 := Lib.hid hk6; clear h1 h2 h3 hk6))
    all_goals
     clear HE5 HKC HEE u6 c6 f6 s0 s2 t2 d0 d2 HB5 hmk
     generalize w6.setCell ⟨X, 2, none⟩ (.slice (some ⟨y6, 0, none⟩) (k + 1) cap6) = w7 at *
     generalize hev : Value.slice (some ⟨y6, 0, none⟩) (k + 1) cap6 = ev7 at *
     clear hev
     obtain ⟨_, _, _, m3, _, _⟩ := HK6.out.obj.cells
     have HO3 := Lib.hid (And.intro HK6.out.mrow HK6.out.lt)
     go_wp2_with (at_builtin; first
      | (refine appendWkM rfl _ _ rfl HO3.out.1 HO3.out.2 (by omega) rfl rfl rfl (by simp) ?_; intro ya3 ca3 wa3 h1 h2 h3; obtain ⟨⟨uu3, cc3⟩, ff3, hk⟩ := HK6.out.stepM h1 (grownAlloc h2); obtain ⟨_, _, _, _, m4, _⟩ := hk.obj.cells; have HO4 := Lib.hid (And.intro hk.trow hk.lt); have HKa3 := Lib.hid hk; clear h1 h2 h3 hk)
      | (refine appendWkT rfl _ _ rfl HO4.out.1 HO4.out.2 (by omega) rfl rfl rfl (by simp) ?_; intro ya4 ca4 wa4 h1 h2 h3; obtain ⟨⟨uu4, cc4⟩, ff4, hk⟩ := HKa3.out.stepT h1 (grownAlloc h2); obtain ⟨_, _, _, _, _, m5⟩ := hk.obj.cells; have HO5 := Lib.hid (And.intro hk.drow hk.lt); have HKa4 := Lib.hid hk; clear h1 h2 h3 hk)
      | (refine appendWkD rfl _ _ rfl HO5.out.1 HO5.out.2 (by omega) rfl rfl rfl (by simp) ?_; intro ya5 ca5 wa5 h1 h2 h3; obtain ⟨⟨uu5, cc5⟩, ff5, hk⟩ := HKa4.out.stepD h3 h1 (grownAlloc h2); have HKa5 := Lib.hid hk; clear h1 h2 h3 hk))
     go_roundw
     case rel => exact ⟨k + 1, _, _, _, _, _, _, _, by go_num, by omega, Lib.hid ⟨HKa5.out, HOKK.out⟩⟩
     case measure => simp [intOf]; omega
  ·obtain rfl : k = n := by omega
   have q2 : ¬ (k : Int) < k := by omega
   have HBAD : Hid (fBad ms = none) := Lib.hid (firstB_none fun j hj => HK.out.2 j (by rw [HN.out] at hj; exact hj))
   have HW := Lib.hid HK.out.1
   have HPC : Hid (∀ s : ByteArray, Calls Tryz.prog 80 #[.pointer (some ⟨X, 0, none⟩), .string s] wr fun e w' => e = .returned (.int .i64 (placeN (namesM ms) s)) ∧ wr = w') := Lib.hid fun s => wplaceR_any B X wr _ pv ev mv tv dv ms s HW.out.obj (HALL.out _ HW.out.below).row (by rw [HN.out]; omega)
   have HEND : Hid ((∀ i, i < k → ∀ p ∈ Px ms i, p.2 = true → plO (namesM ms) p.1 ≠ none) → NdRes w1 X (.slice lx k lc) ms (.returned (.tuple #[.int .i64 0, .string ⟨#[]⟩])) wr) := Lib.hid fun h => by
    have hf : fName ms = none := firstB_none fun j hj => by
     rw [List.any_eq_false]
     intro nm hnm
     obtain ⟨p, h1, h2, h3⟩ := (mem_namesL _ _).1 hnm
     have := h j (by rw [HN.out] at hj; exact hj) p h1 h2
     rw [h3] at this
     simpa using this
    refine ⟨HW.out.below, ?_⟩
    rw [HBAD.out, hf]
    rw [HN.out]
    exact ⟨rfl, pv, ev, mv, tv, dv, ps, gl, HW.out⟩
   have HBN : Hid (∀ t nm, t < k → nameAt ms t = nm → (∀ i, i < t → ∀ p ∈ Px ms i, p.2 = true → plO (namesM ms) p.1 ≠ none) → (∃ p ∈ Px ms t, p.2 = true ∧ plO (namesM ms) p.1 = none) → ∀ w', Below X w1 w' → NdRes w1 X (.slice lx k lc) ms (.returned (.tuple #[.int .i64 101, .string nm])) w') := Lib.hid fun t nm ht hnm h1 h2 w' hb => by
    obtain ⟨p, h3, h4, h5⟩ := h2
    have hf : fName ms = some t := firstB_some (fun j hj => by
     rw [List.any_eq_false]
     intro nm hnm
     obtain ⟨p, h6, h7, h8⟩ := (mem_namesL _ _).1 hnm
     have := h1 j hj p h6 h7
     rw [h8] at this
     simpa using this) (by rw [HN.out]; exact ht) (by
     rw [List.any_eq_true]
     exact ⟨p.1, (mem_namesL _ _).2 ⟨p, h3, h4, rfl⟩, by rw [h5]; rfl⟩)
    refine ⟨hb, ?_⟩
    rw [HBAD.out, hf]
    simp only [hnm]
   clear HK
   go_wp2
   go_loopw [7, 8] (fun i _ ws => ∃ t : Nat, i = .int .i64 t ∧ t ≤ k ∧ Hid (∀ i, i < t → ∀ p ∈ Px ms i, p.2 = true → plO (namesM ms) p.1 ≠ none) ∧ wr = ws) (fun i _ _ => k - (intOf i).toNat)
   case atStart => exact ⟨0, rfl, by omega, Lib.hid fun i hi => by omega, rfl⟩
   case round =>
    obtain ⟨t, rfl, ht, HT, rfl⟩ := hrel
    by_cases htk : t < k
    ·have r1 : (0 : Int) ≤ t := by omega
     have r2 : (t : Int) < k := by omega
     obtain ⟨pb, pc, rfl, hpp⟩ := HW.out.pieces (by omega)
     obtain ⟨xb, xc, p0, hps⟩ := hpp t htk
     have htm : t < ms.length := by rw [HN.out]; exact htk
     obtain ⟨b, c, hbe, _, hcs⟩ := (HALL.out _ HW.out.below).cells htm
     injection hbe with hbe hx1 hx2
     have e0 := hcs 0 (by decide)
     rw [Nat.add_zero] at e0
     have hnm : nameAt ms t = ms[t].x.name := by unfold nameAt namesM; rw [List.getD_eq_getElem?_getD, List.getElem?_map, List.getElem?_eq_getElem htm]; rfl
     simp only [sCells, List.getElem?_cons_zero] at e0
     generalize ms[t].x.name = nm at *
     subst hbe
     have HBN2 := Lib.hid (HBN.out t nm htk hnm HT.out)
     obtain ⟨L, hL⟩ : ∃ L, Px ms t = L := ⟨_, rfl⟩
     rw [hL] at p0 hps HBN2
     obtain ⟨z, hz⟩ : ∃ z, L.length = z := ⟨_, rfl⟩
     have HL := Lib.hid hL
     have HZ := Lib.hid hz
     have HPS := Lib.hid hps
     have hzl : z ≤ 4294967290 := by
      rw [← hz, ← hL]
      unfold Px
      cases hq : piecesB (Tx ms t) with
      | none => simp
      | some l => have := pieces_len hq; have := Tx_len ms t; simp only [Option.getD_some]; omega
     rw [hz] at p0
     have g0 : wr.drew.cell? ⟨b, t * 6, none⟩ = some (.string nm) := e0
     have g1 : wr.drew.cell? ⟨X, 0, none⟩ = some (.slice (some ⟨b, 0, none⟩) k lc) := x0
     have HBW : Hid (Below X w1 wr.drew) := Lib.hid (HW.out.below.trans ((below_drewN wr 1).mono (Nat.le_of_lt HW.out.lt)))
     clear hpp hps hcs hx1 hx2 hL hz hnm htm e0 HBN
     go_wp2
     go_loopw [8] (fun i ws => ∃ q : Nat, i = .int .i64 q ∧ q ≤ z ∧ Hid (∀ j (h : j < L.length), j < q → L[j].2 = true → plO (namesM ms) L[j].1 ≠ none) ∧ wr = ws) (fun i _ => z - (intOf i).toNat)
     case atStart => exact ⟨0, rfl, by omega, Lib.hid fun j _ hj => by omega, rfl⟩
     case round =>
      obtain ⟨q, rfl, hq, HQ, rfl⟩ := hrel
      by_cases hqz : q < z
      ·have r3 : (0 : Int) ≤ q := by omega
       have r4 : (q : Int) < z := by omega
       have hql : q < L.length := by rw [HZ.out]; exact hqz
       obtain ⟨b2, hxe, c0, c1⟩ := HPS.out q hql
       subst hxe
       have HNX : Hid ((L[q].2 = true → plO (namesM ms) L[q].1 ≠ none) → ∀ j (h : j < L.length), j < q + 1 → L[j].2 = true → plO (namesM ms) L[j].1 ≠ none) := Lib.hid fun h j hj hjq => by
        by_cases e : j = q
        ·subst e; exact h
        ·exact HQ.out j hj (by omega)
       have HMEM := Lib.hid (List.getElem_mem hql)
       generalize L[q] = p at *
       obtain ⟨pn, rf⟩ := p
       simp only at c0 c1 HNX HMEM
       clear hql
       cases rf with
       | false =>
        have HQ2 := Lib.hid (HNX.out fun e => by cases e)
        clear HNX HMEM g0 g1
        go_wp2
        go_roundw
        case rel => exact ⟨q + 1, by go_num, by omega, HQ2, by first | rfl | trivial⟩
        case measure => simp [intOf]; omega
       | true =>
        have HC := Lib.hid (HPC.out ⟨pn.toArray⟩)
        cases hp : plO (namesM ms) pn with
        | none =>
         have hneg := placeN_neg hp
         have HE := Lib.hid (HBN2.out ⟨(pn, true), HMEM.out, rfl, hp⟩)
         generalize placeN (namesM ms) ⟨pn.toArray⟩ = pz at *
         clear HNX HMEM hp HQ HPC
         go_wp2_with fail
         refine HC.out.mono ?_
         rintro e w2 ⟨rfl, rfl⟩
         go_wp2
         go_region
         all_goals
          go_wp2
          go_ret2
          exact HE.out _ HBW.out
        | some k1 =>
         have hpos := placeN_some hp
         have HQ2 := Lib.hid (HNX.out fun _ => by rw [hp]; simp)
         rw [hpos] at HC
         have r5 : ¬ ((k1 : Int) < 0) := by omega
         clear HNX HMEM hp HQ HPC hpos g0 g1
         go_wp2_with fail
         refine HC.out.mono ?_
         rintro e w2 ⟨rfl, rfl⟩
         go_wp2
         go_roundw
         case rel => exact ⟨q + 1, by go_num, by omega, HQ2, by first | rfl | trivial⟩
         case measure => simp [intOf]; omega
      ·obtain rfl : q = z := by omega
       have r4 : ¬ (q : Int) < q := by omega
       have HT2 : Hid (∀ i, i < t + 1 → ∀ p ∈ Px ms i, p.2 = true → plO (namesM ms) p.1 ≠ none) := Lib.hid fun i hi p hp h2 => by
        by_cases e : i = t
        ·subst e
         rw [HL.out] at hp
         obtain ⟨j, hj, rfl⟩ := List.getElem_of_mem hp
         exact HQ.out j hj (by rw [HZ.out] at hj; exact hj) h2
        ·exact HT.out i (by omega) p hp h2
       clear HQ g0 g1
       go_wp2
       go_roundw
       case rel => exact ⟨t + 1, by go_num, by omega, HT2, by first | rfl | trivial⟩
       case measure => simp [intOf]; omega
    ·obtain rfl : t = k := by omega
     have r2 : ¬ (t : Int) < t := by omega
     have HE := Lib.hid (HEND.out HT.out)
     clear HT HEND HBN
     go_wp2
     go_ret2
     exact HE.out
end Go.Proofs.YtopghlnoklajkaaGreatDoor
