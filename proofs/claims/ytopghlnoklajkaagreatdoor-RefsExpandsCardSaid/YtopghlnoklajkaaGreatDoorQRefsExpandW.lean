/-
  RefsExpandW.
-/
import Derived.Test.YtopghlnoklajkaaGreatDoorQRefsExpand
import Derived.Test.YtopghlnoklajkaaGreatDoorQSetAll2
namespace Go.Proofs.YtopghlnoklajkaaGreatDoor
open Go.ChangeShapes Go.WideShapes Go.ChangeAt Go.RowKit

set_option maxHeartbeats 6400000 in
set_option maxRecDepth 100000 in
theorem sexpand_any (B Y : Nat) (w : World) (lv0 : Value) (ks : List KeyV) (ms : List SetM) (yk : Option Addr) (ck : Nat) (hK : Keys w yk ks) (hY : SObj w Y (.slice yk ks.length ck) lv0) (h : SetsAt B w lv0 ms) (hok : MsOk ms) (hl : LayOk ks ms) :
  Calls Tryz.prog 17 #[.pointer (some ⟨Y, 0, none⟩)] w (SxRes B w lv0 ms) := by
 have HAL := Lib.hid (sall2_any B Y w _ lv0 ms hY h hok.few (fun m hm => by have := (right_bounds (hok.right m hm)).1; omega))
 have HIN := Lib.hid (And.intro hK (And.intro hY (And.intro h (And.intro hok hl))))
 clear hK hY h hok hl
 go_enter Tryz.func17, Tryz.ntmps17
 go_wp2_with fail
 refine HAL.out.mono ?_
 rintro e w1 ⟨v, ls, rfl, hsame, hls, hb1, _⟩
 obtain ⟨lx, lc0, hv⟩ := hls.form
 obtain ⟨n, hn⟩ : ∃ n, ls.length = n := ⟨_, rfl⟩
 rw [hn] at hv
 subst hv
 have hokl := HIN.out.2.2.2.1.same hsame
 have hn2 : n ≤ 1000 := by rw [← hn]; exact hokl.few
 have hnd := named_any w.heap.size w1.heap.size w1 (w1.alloc (Obj.cells #[.slice lx n lc0, .slice none 0 0, .slice none 0 0, .slice none 0 0, .slice none 0 0, .slice none 0 0] 99)) (.slice lx n lc0) ls rfl hls hokl (WkAt.new (Px ls) _ rfl)
 have HND := Lib.hid hnd
 have HS := Lib.hid hsame
 have HRW : Hid (∀ W, Below w1.heap.size w1 W → W.ownsRow w.heap.size 50 6 (.slice lx n lc0) ls.length (sFlat ls)) := Lib.hid fun W hW => rowBelow hls.row hW
 have HLX : Hid (∀ g, (Value.slice lx n lc0).ownBlock = some g → g < w1.heap.size) := Lib.hid fun g hg => (hls.row.lt g hg).2
 have HLS := Lib.hid hls
 have HB1 := Lib.hid hb1
 have HOK := Lib.hid hokl
 have HN := Lib.hid hn
 have hX1 : w.heap.size ≤ w1.heap.size := hb1.size
 clear hnd hsame hls hokl hb1 HAL hn
 go_wp2_with fail
 generalize w1.heap.size = X at *
 refine HND.out.mono ?_
 rintro e w3 ⟨hb3, h3⟩
 have HB3 := Lib.hid hb3
 have HB13 : Hid (Below w.heap.size w w3) := Lib.hid (HB1.out.trans (hb3.mono hX1))
 clear HND hb3
 cases hfb : fBad ls with
 | some k =>
  rw [hfb] at h3
  simp only at h3
  subst h3
  have HE : Hid (SxRes B w lv0 ms (.returned (.tuple #[.int .i64 100, .string (nameAt ls k)])) w3) := Lib.hid (SxRes.same HS.out (by unfold SxRes wrongE; rw [hfb]; exact ⟨rfl, HB13.out⟩))
  clear hfb HB3 HB13 HB1 HOK HLS HS HIN
  generalize nameAt ls k = nm at *
  go_wp2
  go_ret2
  exact HE.out
 | none =>
  rw [hfb] at h3
  simp only at h3
  cases hfn : fName ls with
  | some k =>
   rw [hfn] at h3
   simp only at h3
   subst h3
   have HE : Hid (SxRes B w lv0 ms (.returned (.tuple #[.int .i64 101, .string (nameAt ls k)])) w3) := Lib.hid (SxRes.same HS.out (by unfold SxRes wrongE; rw [hfb, hfn]; exact ⟨rfl, HB13.out⟩))
   clear hfb hfn HB3 HB13 HB1 HOK HLS HS HIN
   generalize nameAt ls k = nm at *
   go_wp2
   go_ret2
   exact HE.out
  | none =>
   rw [hfn] at h3
   simp only at h3
   obtain ⟨rfl, pv, ev, mv, tv, dv, ps, gl, hwk⟩ := h3
   rw [HN.out] at hwk
   have hrow : w3.ownsRow w.heap.size 50 6 (.slice lx n lc0) ls.length (sFlat ls) := HRW.out w3 HB3.out
   have hnk : ∃ sb sc pb pc lb lc mb mc tb tc db dc, NdOk w w3 X n (.slice lx n lc0) lv0 ls sb sc pb pc lb lc mb mc tb tc db dc gl := by
    have hlow : ∀ g, lv0.ownBlock = some g → g < w.heap.size := fun g hg => (HIN.out.2.2.1.row.lt g hg).2
    rcases Nat.eq_zero_or_pos n with h0 | h0
    ·exact ⟨0, 0, 0, 0, 0, 0, X + 1, 0, X + 1, 0, X + 1, 0, HB13.out, hX1, hwk.lt, hwk.obj.cells.1, ⟨fun g hg => (hwk.gat g hg).1, Nat.lt_succ_self _, Nat.lt_succ_self _, Nat.lt_succ_self _⟩, hlow, fun h1 => by omega⟩
    ·obtain ⟨sb, sc, pb, pc, lb, lc, mb, mc, tb, tc, db, dc, e1, _, _, _, e5, e6, e7, e8, e9, e10, e11⟩ := hwk.read hrow HLX.out HN.out h0 hn2
     exact ⟨sb, sc, pb, pc, lb, lc, mb, mc, tb, tc, db, dc, HB13.out, hX1, hwk.lt, hwk.obj.cells.1, ⟨fun g hg => (hwk.gat g hg).1, e6.m, e6.t, e6.d⟩, hlow, fun _ => ⟨e1, e5, e6, e7, e8, e9, e10, e11⟩⟩
   obtain ⟨sb, sc, pb, pc, lb, lc, mb, mc, tb, tc, db, dc, hnk⟩ := hnk
   have HK := Lib.hid hnk
   have HPZ : Hid (∀ i, i < n → (Px ls i).length ≤ 4294967290) := Lib.hid fun i _ => Nat.le_trans (Px_big ls i).2 (by decide)
   have HLZ : Hid (∀ i, i < n → ∀ p ∈ Px ls i, p.1.length ≤ 4294967290) := Lib.hid fun i _ p hp => Nat.le_trans ((Px_big ls i).1 p hp) (by decide)
   have HG : Hid (∀ i, i < n → ∀ p ∈ Px ls i, p.2 = true → ∃ k : Nat, k < n ∧ placeN (namesM ls) ⟨p.1.toArray⟩ = (k : Int)) := Lib.hid fun i hi p hp hr => by
    obtain ⟨k, h1, h2⟩ := placed hfn i (by rw [HN.out]; exact hi) p.1 ((mem_namesL _ _).2 ⟨p, hp, hr, rfl⟩)
    exact ⟨k, by rw [HN.out] at h2; exact h2, placeN_some h1⟩
   have HN1 : Hid (∀ i, i < n → ∀ k ∈ scP (Px ls) (plO (namesM ls)) i, k < n) := Lib.hid fun i hi k hk => by
    have := inside hfn i (by rw [HN.out]; exact hi) k hk
    rw [HN.out] at this; exact this
   have HFB := Lib.hid (And.intro hfb hfn)
   have H0 : Hid (Chg (· ∈ gl) w3 w3 ∧ (∀ j (h : j < gl.length), 0 ≤ j → BoolAt w3 gl[j] n (fun _ => false)) ∧ ∀ j, j < 0 → ¬ Lead (scP (Px ls) (plO (namesM ls))) j j) := Lib.hid ⟨Chg.refl_ _ _, fun j hj _ => by
    rcases Nat.eq_zero_or_pos n with h0 | h0
    ·intro q hq; omega
    ·exact (HK.out.read h0).2.2.2.2.2.2.1 _ (List.getElem_mem hj), fun j hj => by omega⟩
   clear hfb hfn hwk hrow hnk HB3 HB1
   go_wp2
   go_loopw [7] (fun i wr => ∃ k : Nat, i = .int .i64 k ∧ k ≤ n ∧ Hid (Chg (· ∈ gl) w3 wr ∧ (∀ j (h : j < gl.length), k ≤ j → BoolAt wr gl[j] n (fun _ => false)) ∧ ∀ j, j < k → ¬ Lead (scP (Px ls) (plO (namesM ls))) j j)) (fun i _ => n - (intOf i).toNat)
   case atStart => exact ⟨0, rfl, by omega, H0⟩
   case round =>
    clear H0
    obtain ⟨k, rfl, hk, HR⟩ := hrel
    have x0 := HK.out.zero HR.out.1 (fun e => by have := HK.out.far.1 X e; omega)
    by_cases hlt : k < n
    ·have q1 : (0 : Int) ≤ k := by omega
     have q2 : (k : Int) < n := by omega
     obtain ⟨hve, _, hap, _, _, _, _, hst⟩ := HK.out.read (by omega)
     injection hve with ev1 ev2 ev3
     have hgk : k < gl.length := by rw [hap.len]; exact hlt
     have hkl : k < ls.length := by rw [HN.out]; exact hlt
     obtain ⟨g, hgd⟩ : ∃ g, gl[k] = g := ⟨_, rfl⟩
     have hgmem : g ∈ gl := by rw [← hgd]; exact List.getElem_mem hgk
     have HSTG : Hid (∀ W, wr.grownBy W (some g) → Chg (· ∈ gl) w3 W ∧ XSt W X n sb sc pb pc lb lc mb mc tb tc db dc ls gl) := Lib.hid fun W hg => by
      have hc := HR.out.1.trans_ (Chg.of_grown (S := (· ∈ gl)) hg (fun q e => by injection e with e; rw [← e]; exact hgmem))
      exact ⟨hc, hst _ _ hc (fun b hb => .inl hb)⟩
     have hb0 : BoolAt wr g n (fun _ => false) := by have := HR.out.2.1 k hgk (Nat.le_refl _); rw [hgd] at this; exact this
     have HMK := Lib.hid (smark_any X n pb pc lb lc k g n (Px ls) (namesM ls) wr (Lib.hid fun W hg => by
       have h1 := (HSTG.out W hg).2
       exact ⟨h1.c1, h1.c2, by have := h1.g k hgk; rw [hgd] at this; exact this, h1.p⟩) hlt HPZ.out (Lib.hid fun W hg s => (HSTG.out W hg).2.pl s) HG (unm n fun _ => false) k (fun _ => false) wr rfl ⟨rfl, rfl, rfl, Nat.le_refl _, fun _ _ _ => rfl⟩ hb0 hlt)
     have hnm : nameAt ls k = ls[k].x.name := by unfold nameAt namesM; rw [List.getD_eq_getElem?_getD, List.getElem?_map, List.getElem?_eq_getElem hkl]; rfl
     have HAF : Hid (∀ W V', wr.grownBy W (some g) → BoolAt W g n V' → Marked (scP (Px ls) (plO (namesM ls))) k (fun _ => false = true) (fun j => V' j = true) → W.cell? ⟨X, 0, none⟩ = some (.slice (some ⟨sb, 0, none⟩) n sc) ∧ W.cell? ⟨X, 2, none⟩ = some (.slice (some ⟨lb, 0, none⟩) n lc) ∧ W.cell? ⟨lb, k, none⟩ = some (.slice (some ⟨g, 0, none⟩) n n) ∧ W.cell? ⟨g, k, none⟩ = some (.bool (V' k)) ∧ W.cell? ⟨sb, k * 6, none⟩ = some (.string (nameAt ls k)) ∧
       (V' k = true → ∀ w', Below W.heap.size W w' → SxRes B w lv0 ms (.returned (.tuple #[.int .i64 102, .string (nameAt ls k)])) w') ∧
       (V' k = false → Chg (· ∈ gl) w3 W ∧ (∀ j (h : j < gl.length), k + 1 ≤ j → BoolAt W gl[j] n (fun _ => false)) ∧ ∀ j, j < k + 1 → ¬ Lead (scP (Px ls) (plO (namesM ls))) j j)) := Lib.hid fun W V' hg hb hm => by
      obtain ⟨h0, h1⟩ := HSTG.out W hg
      have hj : V' k = true ↔ Lead (scP (Px ls) (plO (namesM ls))) k k := by
       refine Marked.just (V' := fun j => V' j = true) ?_ k
       have e : (fun _ : Nat => False) = (fun _ : Nat => false = true) := by funext _; simp
       rw [e]; exact hm
      refine ⟨h1.c0, h1.c2, by have := h1.g k hgk; rw [hgd] at this; exact this, (hb k hlt).1, by rw [hnm]; exact h1.k k hkl 0 (by decide), fun hv w' hw' => ?_, fun hv => ⟨h0, fun j hj1 hj2 => ?_, fun j hj1 => ?_⟩⟩
      ·refine SxRes.same HS.out ?_
       have hfl : fLoop ls = some k := fLoop_at HR.out.2.2 hkl (hj.1 hv)
       have hbw : Below w.heap.size w W := HK.out.back h0 (fun b hb => Nat.le_of_lt (HK.out.far.1 b hb))
       unfold SxRes wrongE
       rw [HFB.out.1, HFB.out.2, hfl]
       exact ⟨rfl, hbw.trans (hw'.mono hbw.size)⟩
      ·have h2 := HR.out.2.1 j hj1 (by omega)
       have h3 : gl[j] ≠ g := fun e => by
        rw [← hgd] at e
        exact (List.pairwise_iff_getElem.1 hap.nd) k j hgk hj1 (by omega) e.symm
       exact h2.far (hg.block _ (lt_of_cell (h2 k hlt).1) (fun e => h3 (by injection e)))
      ·by_cases e : j = k
       ·subst e; rw [← hj, hv]; simp
       ·exact HR.out.2.2 j (by omega)
     generalize nameAt ls k = nm at *
     subst ev1
     subst ev3
     clear hst hap HSTG hb0 hgk hkl hnm hgmem hgd HR
     go_wp2_with fail
     refine HMK.out.mono ?_
     rintro e w4 ⟨rfl, hg4, V', hb4, hm4⟩
     obtain ⟨y0, y2, yg, yb, yn, hy1, hy2⟩ := HAF.out w4 V' hg4 hb4 hm4
     clear HMK HAF hg4 hb4 hm4
     cases hvk : V' k with
     | true =>
      rw [hvk] at yb
      have HE := Lib.hid (hy1 hvk)
      have d0 : w4.drew.cell? ⟨X, 0, none⟩ = some (.slice (some ⟨sb, 0, none⟩) n lc0) := y0
      have dn : w4.drew.cell? ⟨sb, k * 6, none⟩ = some (.string nm) := yn
      have HD4 : Hid (Below w4.heap.size w4 w4.drew) := Lib.hid (below_drewN w4 1)
      clear hy1 hy2 hvk
      go_wp2
      go_region
      all_goals
       go_wp2
       go_ret2
       exact HE.out _ HD4.out
     | false =>
      rw [hvk] at yb
      have HE := Lib.hid (hy2 hvk)
      clear hy1 hy2 hvk y0 yn
      go_wp2
      go_roundw
      case rel => exact ⟨k + 1, by go_num, by omega, HE⟩
      case measure => simp [intOf]; omega
    ·obtain rfl : k = n := by omega
     have q2 : ¬ (k : Int) < k := by omega
     have HAC : Hid (∀ i, i < k → ¬ Lead (scP (Px ls) (plO (namesM ls))) i i) := Lib.hid HR.out.2.2
     have HFL : Hid (fLoop ls = none) := Lib.hid (fLoop_none fun j hj => HR.out.2.2 j (by rw [HN.out] at hj; exact hj))
     have H1 : Hid (Chg (fun b => b ∈ gl ∨ b = mb) w3 wr ∧ (0 < k → IntAt wr mb k (fun _ => -1)) ∧ MemoOk (Px ls) (plO (namesM ls)) k (fun _ => -1) ∧ ∀ j, j < 0 → (Ex ls j).length ≤ 200) := Lib.hid ⟨HR.out.1.more (fun _ h => .inl h), fun h0 => by
      obtain ⟨_, _, hap, hin, _⟩ := HK.out.read h0
      exact hin.far (HR.out.1.block mb (lt_of_cell (hin 0 h0).1) hap.gm), fun j _ => .inl rfl, fun j hj => by omega⟩
     clear HR
     go_wp2
     go_loopw [8] (fun i ws => ∃ (t : Nat) (M : Nat → Int), i = .int .i64 t ∧ t ≤ k ∧ Hid (Chg (fun b => b ∈ gl ∨ b = mb) w3 ws ∧ (0 < k → IntAt ws mb k M) ∧ MemoOk (Px ls) (plO (namesM ls)) k M ∧ ∀ j, j < t → (Ex ls j).length ≤ 200)) (fun i _ => k - (intOf i).toNat)
     case atStart => exact ⟨0, _, rfl, by omega, H1⟩
     case round =>
      clear H1 x0
      obtain ⟨t, M, rfl, ht, HR⟩ := hrel
      have nX : ¬ (X ∈ gl ∨ X = mb) := fun e => by
       rcases e with e | e
       ·have := HK.out.far.1 X e; omega
       ·have := HK.out.far.2.1; omega
      have x0 := HK.out.zero HR.out.1 nX
      by_cases hlt : t < k
      ·have r1 : (0 : Int) ≤ t := by omega
       have r2 : (t : Int) < k := by omega
       obtain ⟨hve, _, hap, _, _, _, _, hst⟩ := HK.out.read (by omega)
       injection hve with ev1 ev2 ev3
       have hkl : t < ls.length := by rw [HN.out]; exact hlt
       have HSTG : Hid (∀ W, Chg (fun b => b ∈ gl ∨ b = mb) w3 W → XSt W X k sb sc pb pc lb lc mb mc tb tc db dc ls gl) := Lib.hid fun W hc => hst _ _ hc (fun b hb => by rcases hb with hb | hb; exact .inl hb; exact .inr (.inl hb))
       have hnm : nameAt ls t = ls[t].x.name := by unfold nameAt namesM; rw [List.getD_eq_getElem?_getD, List.getElem?_map, List.getElem?_eq_getElem hkl]; rfl
       have hx := HSTG.out _ HR.out.1
       have k1 := hx.k t hkl 1 (by decide)
       have k0 : ∀ W, Chg (fun b => b ∈ gl ∨ b = mb) w3 W → W.cell? ⟨sb, t * 6, none⟩ = some (.string ls[t].x.name) := fun W hc => (HSTG.out W hc).k t hkl 0 (by decide)
       have hrt := HOK.out.right _ (List.getElem_mem hkl)
       have hoth : ls[t].x.val.kind ≠ 5 → (Ex ls t).length ≤ 200 := fun h5 => (Ex_other HFB.out.2 HFL.out hkl hrt h5).2
       simp only [sCells, List.getElem?_cons_succ, List.getElem?_cons_zero] at k1
       rw [← hnm] at k0
       generalize ls[t].x.val.kind = kd at *
       subst ev1
       subst ev3
       by_cases h5 : kd = 5
       ·subst h5
        have HSZ := Lib.hid (ssize_any X k pb pc mb mc (Px ls) (namesM ls) wr (Lib.hid fun W hg => by
          have h1 := HSTG.out W (HR.out.1.trans_ (Chg.of_grown hg (fun q e => by injection e with e; exact .inr e.symm)))
          exact ⟨h1.c1, h1.c3, h1.p⟩) HPZ.out HLZ (Lib.hid fun W hg s => (HSTG.out W (HR.out.1.trans_ (Chg.of_grown hg (fun q e => by injection e with e; exact .inr e.symm)))).pl s) HG HN1 HAC (rank (scP (Px ls) (plO (namesM ls))) k t) t M wr rfl ⟨rfl, rfl, rfl, Nat.le_refl _, fun _ _ _ => rfl⟩ (HR.out.2.1 (by omega)) HR.out.2.2.1 hlt)
        have hz : sizeB (Px ls) (plO (namesM ls)) k t = min (Ex ls t).length 201 := by unfold sizeB Ex; rw [HN.out]
        rw [hz] at HSZ
        have HAF : Hid (∀ W M', wr.grownBy W (some mb) → IntAt W mb k M' → MemoOk (Px ls) (plO (namesM ls)) k M' → W.cell? ⟨X, 0, none⟩ = some (.slice (some ⟨sb, 0, none⟩) k lc0) ∧ W.cell? ⟨sb, t * 6, none⟩ = some (.string (nameAt ls t)) ∧
          (200 < (Ex ls t).length → ∀ w', Below W.heap.size W w' → SxRes B w lv0 ms (.returned (.tuple #[.int .i64 103, .string (nameAt ls t)])) w') ∧
          ((Ex ls t).length ≤ 200 → Chg (fun b => b ∈ gl ∨ b = mb) w3 W ∧ (0 < k → IntAt W mb k M') ∧ MemoOk (Px ls) (plO (namesM ls)) k M' ∧ ∀ j, j < t + 1 → (Ex ls j).length ≤ 200)) := Lib.hid fun W M' hg hi hm => by
         have hc := HR.out.1.trans_ (Chg.of_grown (S := fun b => b ∈ gl ∨ b = mb) hg (fun q e => by injection e with e; exact .inr e.symm))
         refine ⟨(HSTG.out W hc).c0, k0 W hc, fun hlong w' hw' => ?_, fun hsh => ⟨hc, fun _ => hi, hm, fun j hj => ?_⟩⟩
         ·refine SxRes.same HS.out ?_
          have hfl : fLong ls = some t := firstB_some (fun j hj => decide_eq_false (by have := HR.out.2.2.2 j hj; omega)) hkl (decide_eq_true hlong)
          have hbw : Below w.heap.size w W := HK.out.back hc (fun b hb => by
           rcases hb with hb | hb
           ·exact Nat.le_of_lt (HK.out.far.1 b hb)
           ·have := HK.out.far.2.1; omega)
          unfold SxRes wrongE
          rw [HFB.out.1, HFB.out.2, HFL.out, hfl]
          exact ⟨rfl, hbw.trans (hw'.mono hbw.size)⟩
         ·by_cases e : j = t
          ·subst e; exact hsh
          ·exact HR.out.2.2.2 j (by omega)
        generalize nameAt ls t = nm at *
        generalize (Ex ls t).length = el at *
        clear hst hap HSTG hx k0 hrt hoth hz hkl hnm HR nX
        go_wp2_with fail
        refine HSZ.out.mono ?_
        rintro e w4 ⟨rfl, hg4, M', hi4, hm4⟩
        obtain ⟨y0, yn, hy1, hy2⟩ := HAF.out w4 M' hg4 hi4 hm4
        clear HSZ HAF hg4 hi4 hm4
        by_cases hel : 200 < el
        ·have hmn : min el 201 = 201 := by omega
         rw [hmn]
         have HE := Lib.hid (hy1 hel)
         have d0 : w4.drew.cell? ⟨X, 0, none⟩ = some (.slice (some ⟨sb, 0, none⟩) k lc0) := y0
         have dn : w4.drew.cell? ⟨sb, t * 6, none⟩ = some (.string nm) := yn
         have HD4 : Hid (Below w4.heap.size w4 w4.drew) := Lib.hid (below_drewN w4 1)
         clear hy1 hy2 hmn
         go_wp2
         go_region
         all_goals
          go_wp2
          go_ret2
          exact HE.out _ HD4.out
        ·have hmn : min el 201 = el := by omega
         rw [hmn]
         have hel2 : ¬ (200 : Int) < el := by omega
         have HE := Lib.hid (hy2 (by omega))
         clear hy1 hy2 hmn y0 yn
         go_wp2
         go_roundw
         case rel => exact ⟨t + 1, M', by go_num, by omega, HE⟩
         case measure => simp [intOf]; omega
       ·have HE : Hid (Chg (fun b => b ∈ gl ∨ b = mb) w3 wr ∧ (0 < k → IntAt wr mb k M) ∧ MemoOk (Px ls) (plO (namesM ls)) k M ∧ ∀ j, j < t + 1 → (Ex ls j).length ≤ 200) := Lib.hid ⟨HR.out.1, HR.out.2.1, HR.out.2.2.1, fun j hj => by
         by_cases e : j = t
         ·subst e; exact hoth h5
         ·exact HR.out.2.2.2 j (by omega)⟩
        clear hst hap HSTG hx k0 hrt hoth hkl hnm HR nX
        go_wp2
        go_roundw
        case rel => exact ⟨t + 1, M, by go_num, by omega, HE⟩
        case measure => simp [intOf]; omega
      ·obtain rfl : t = k := by omega
       have r2 : ¬ (t : Int) < t := by omega
       have HWN : Hid (wrongE ls = none) := Lib.hid (by
        have hfl : fLong ls = none := firstB_none fun j hj => decide_eq_false (by have := HR.out.2.2.2 j (by rw [HN.out] at hj; exact hj); omega)
        unfold wrongE
        rw [HFB.out.1, HFB.out.2, HFL.out, hfl])
       obtain ⟨S2, hS2⟩ : ∃ S2 : Nat → Prop, S2 = fun b => b ∈ gl ∨ b = mb ∨ b = tb ∨ b = db ∨ lv0.ownBlock = some b := ⟨_, rfl⟩
       have HS2 : Hid ((∀ b, b ∈ gl ∨ b = mb → S2 b) ∧ S2 tb ∧ S2 db ∧ (∀ g, lv0.ownBlock = some g → S2 g) ∧ (∀ b, S2 b → X < b ∨ lv0.ownBlock = some b)) := Lib.hid (by
        subst hS2
        refine ⟨fun b hb => ?_, .inr (.inr (.inl rfl)), .inr (.inr (.inr (.inl rfl))), fun g hg => .inr (.inr (.inr (.inr hg))), fun b hb => ?_⟩
        ·rcases hb with hb | hb
         ·exact .inl hb
         ·exact .inr (.inl hb)
        ·rcases hb with hb | hb | hb | hb | hb
         ·exact .inl (HK.out.far.1 b hb)
         ·have := HK.out.far.2.1; exact .inl (by omega)
         ·have := HK.out.far.2.2.1; exact .inl (by omega)
         ·have := HK.out.far.2.2.2; exact .inl (by omega)
         ·exact .inr hb)
       have HXS : Hid (0 < t → ∀ W, Chg S2 w3 W → XSt W X t sb sc pb pc lb lc mb mc tb tc db dc ls gl) := Lib.hid fun h0 W hc => by
        obtain ⟨_, hsb, hap, _, _, _, _, hst⟩ := HK.out.read h0
        refine hst S2 W hc fun b hb => ?_
        subst hS2
        rcases hb with hb | hb | hb | hb | hb
        ·exact .inl hb
        ·exact .inr (.inl hb)
        ·exact .inr (.inr (.inl hb))
        ·exact .inr (.inr (.inr (.inl hb)))
        ·have := HK.out.low b hb
         have := HK.out.ge
         exact .inr (.inr (.inr (.inr ⟨by omega, by omega⟩)))
       have HKY : Hid (∀ W, Chg S2 w3 W → Keys W yk ks ∧ SObj W Y (.slice yk ks.length ck) lv0) := Lib.hid fun W hc => by
        obtain ⟨hK, hY, hst, _, hlo⟩ := HIN.out
        have h3 := hK.below (HB13.out.mono (Nat.le_refl _))
        have hY3 := hY.below HB13.out
        have hnk := keys_apart hK hst hlo.len
        have hno : ∀ b, b < w.heap.size → lv0.ownBlock ≠ some b → ¬ S2 b := fun b hb hn e => by
         rcases HS2.out.2.2.2.2 b e with h1 | h1
         ·omega
         ·exact hn h1
        refine ⟨fun i hi => ?_, ?_⟩
        ·obtain ⟨b, e, hl, _⟩ := hK i hi
         obtain ⟨b', e', hl', c0, c1, c2, c3, c4, c5⟩ := h3 i hi
         rw [e] at e'
         injection e' with e'
         injection e' with e' _ _
         subst e'
         have hn := hno b hl (hnk i hi b 0 e)
         exact ⟨b, e, Nat.lt_of_lt_of_le hl' hc.size, (hc.cell_ hl' hn).trans c0, (hc.cell_ hl' hn).trans c1, (hc.cell_ hl' hn).trans c2, (hc.cell_ hl' hn).trans c3, (hc.cell_ hl' hn).trans c4, (hc.cell_ hl' hn).trans c5⟩
        ·obtain ⟨fr, hY0⟩ := hY
         obtain ⟨fr3, hY3⟩ := hY3
         exact ⟨fr3, (hc.block Y (heap_ltF hY3) (hno Y (heap_ltF hY0) (own_ne hst.row hY0 (by decide)))).trans hY3⟩
       have H2 : Hid (Chg S2 w3 wr ∧ (0 < t → TxtAt wr tb t (fun _ => ⟨#[]⟩) ∧ BoolAt wr db t (fun _ => false)) ∧ MadeOk (Px ls) (plO (namesM ls)) t (fun _ => false) (fun _ => ⟨#[]⟩) ∧ SetsAt B wr lv0 ms ∧ (∀ j (h1 : j < ms.length) (h2 : j < ls.length), ms[j].x = if j < 0 then expS ls j ls[j].x else ls[j].x) ∧ (∀ m ∈ ms, ∀ b off, 0 < m.x.val.words.length → m.a = some ⟨b, off, none⟩ → b < w.heap.size)) := Lib.hid (by
        have hc := HR.out.1.more HS2.out.1
        refine ⟨hc, fun h0 => ?_, fun j _ hj => (by cases hj), ?_, fun j h1 h2 => ?_, fun m hm b off hp e => ?_⟩
        ·obtain ⟨_, _, hap, _, htx, hbo, _⟩ := HK.out.read h0
         refine ⟨htx.far (HR.out.1.block tb (lt_of_cell (htx 0 h0).1) fun e => ?_), hbo.far (HR.out.1.block db (lt_of_cell (hbo 0 h0).1) fun e => ?_)⟩
         ·rcases e with e | e
          ·exact hap.gt e
          ·exact hap.mt e.symm
         ·rcases e with e | e
          ·exact hap.gd e
          ·exact hap.md e.symm
        ·refine HIN.out.2.2.1.below (HK.out.back HR.out.1 fun b hb => ?_)
         rcases hb with hb | hb
         ·exact Nat.le_of_lt (HK.out.far.1 b hb)
         ·have := HK.out.far.2.1; omega
        ·rw [if_neg (by omega), x_same HS.out h2 h1]
        ·obtain ⟨b', off', e', hl⟩ := (HIN.out.2.2.1.wds m hm).lt hp
         rw [e] at e'
         injection e' with e'
         injection e' with e' _ _
         subst e'
         exact hl)
       have HLM : Hid (ms.length = t) := Lib.hid (by rw [← len_same HS.out, HN.out])
       clear HR hS2
       go_wp2
       go_loopw [9] (fun i wr => ∃ (q : Nat) (ns : List SetM) (D : Nat → Bool) (T : Nat → ByteArray), i = .int .i64 q ∧ q ≤ t ∧ ns.length = t ∧ Hid (Chg S2 w3 wr ∧ (0 < t → TxtAt wr tb t T ∧ BoolAt wr db t D) ∧ MadeOk (Px ls) (plO (namesM ls)) t D T ∧ SetsAt B wr lv0 ns ∧ (∀ j (h1 : j < ns.length) (h2 : j < ls.length), ns[j].x = if j < q then expS ls j ls[j].x else ls[j].x) ∧ (∀ m ∈ ns, ∀ b off, 0 < m.x.val.words.length → m.a = some ⟨b, off, none⟩ → b < w.heap.size))) (fun i _ => t - (intOf i).toNat)
       case atStart => exact ⟨0, ms, _, _, rfl, by omega, HLM.out, H2⟩
       case round =>
        clear H2 x0
        obtain ⟨q, ns, D, T, rfl, hq, hnl, HR⟩ := hrel
        have nX2 : ¬ S2 X := fun e => by
         rcases HS2.out.2.2.2.2 X e with h1 | h1
         ·omega
         ·have := HK.out.low X h1; have := HK.out.ge; omega
        have x0 := HK.out.zero HR.out.1 nX2
        by_cases hlt : q < t
        ·have r1 : (0 : Int) ≤ q := by omega
         have r3 : (q : Int) < t := by omega
         obtain ⟨hve, hsbX, hap, _⟩ := HK.out.read (by omega)
         injection hve with ev1 ev2 ev3
         have hkl : q < ls.length := by rw [HN.out]; exact hlt
         have hql : q < ns.length := by omega
         have hlo := HIN.out.2.2.2.2.same HS.out
         have hqk : q < ks.length := by rw [← hlo.len]; exact hkl
         have hcl : ∀ W, Chg S2 w3 W → W.cell? ⟨X, 0, none⟩ = some (.slice (some ⟨sb, 0, none⟩) t sc) ∧ W.cell? ⟨sb, q * 6, none⟩ = some (.string ls[q].x.name) ∧ W.cell? ⟨sb, q * 6 + 5, none⟩ = some (.int .i64 ls[q].x.from_) ∧ W.cell? ⟨sb, q * 6 + 1, none⟩ = some (.int .i64 ls[q].x.val.kind) := fun W hc => by
          have h1 := HXS.out (by omega) W hc
          exact ⟨h1.c0, h1.k q hkl 0 (by decide), h1.k q hkl 5 (by decide), h1.k q hkl 1 (by decide)⟩
         have k1 := (hcl _ HR.out.1).2.2.2
         by_cases h5 : ls[q].x.val.kind = 5
         ·rw [h5] at k1
          have hEx : ∀ i, i < t → expB (Px ls) (plO (namesM ls)) t i = Ex ls i := fun i _ => by unfold Ex; rw [HN.out]
          have hdr : Chg S2 w3 wr.drew := HR.out.1.trans_ (Chg.of_below (below_drewN wr 1))
          have hch : ∀ W, Grow2 tb db wr.drew W → Chg S2 w3 W := fun W hg => hdr.trans_ (Chg.of_grow2 hg HS2.out.2.1 HS2.out.2.2.1)
          have hmd := smade_any X t sb sc pb pc tb tc db dc (fun i => match ls[i]? with | some m => m.x.val.kind | none => 0) (Px ls) (namesM ls) wr.drew (Lib.hid fun W hg => by
            have h1 := HXS.out (by omega) W (hch W hg)
            exact ⟨h1.c0, fun i hi => by
             have hi2 : i < ls.length := by rw [HN.out]; exact hi
             have := h1.k i hi2 1 (by decide)
             rw [List.getElem?_eq_getElem hi2]; exact this, h1.c1, h1.c4, h1.c5, h1.p⟩) hap.td HPZ.out (Lib.hid fun W hg s => (HXS.out (by omega) W (hch W hg)).pl s) HG (Lib.hid fun i hi hk5 => by
             have hi2 : i < ls.length := by rw [HN.out]; exact hi
             rw [List.getElem?_eq_getElem hi2] at hk5
             exact (Ex_other HFB.out.2 HFL.out hi2 (HOK.out.right _ (List.getElem_mem hi2)) hk5).1) (Lib.hid fun i hi _ => by
             rw [hEx i hi]
             exact Ex_short HWN.out i (by rw [HN.out]; exact hi)) HN1 HAC (rank (scP (Px ls) (plO (namesM ls))) t q) q D T wr.drew rfl ⟨rfl, rfl, rfl, Nat.le_refl _, fun _ _ _ _ => rfl⟩ ((HR.out.2.1 (by omega)).1.far rfl) ((HR.out.2.1 (by omega)).2.far rfl) HR.out.2.2.1 hlt
          rw [hEx q hlt] at hmd
          have hmk : sB (Ex ls q) = mkB (Ex ls q) := rfl
          rw [hmk] at hmd
          have hCs : (mkB (Ex ls q)).size ≤ 200 := Ex_short HWN.out q hkl
          have hmay := may_exp HWN.out q hkl (hlo.may q hkl hqk) h5
          have hfrom := hlo.from_ _ (List.getElem_mem hkl)
          have hxs : expS ls q ls[q].x = ⟨ls[q].x.name, ⟨5, 0, mkB (Ex ls q), []⟩, ls[q].x.from_⟩ := by unfold expS; rw [if_pos h5]
          have hnames : namesM ns = namesM ls := by
           apply List.ext_getElem (by unfold namesM; rw [List.length_map, List.length_map, hnl, HN.out])
           intro j h1 h2
           unfold namesM at h1 h2 ⊢
           rw [List.length_map] at h1 h2
           rw [List.getElem_map, List.getElem_map, HR.out.2.2.2.2.1 j h1 h2]
           split
           ·exact expS_name ls j _
           ·rfl
          have hnq : ns[q].x.name = ls[q].x.name := by
           rw [HR.out.2.2.2.2.1 q hql hkl, if_neg (by omega)]
          have hpl : placeN (namesM ns) ls[q].x.name = (q : Int) := by
           rw [hnames]
           have := place_self HOK.out.dis (i := q) (by unfold namesM; rw [List.length_map]; exact hkl)
           have e : (namesM ls)[q]'(by unfold namesM; rw [List.length_map]; exact hkl) = ls[q].x.name := by simp [namesM]
           rw [e] at this; exact this
          generalize mkB (Ex ls q) = C at *
          generalize ls[q].x.name = nm at *
          generalize ls[q].x.from_ = fr at *
          have HMD := Lib.hid hmd
          have HSET : Hid (∀ w4, Grow2 tb db wr.drew w4 → SetsAt B w4 lv0 ns) := Lib.hid fun w4 hg => by
           refine SetsAt.low (N := w.heap.size) (S := fun b => b = tb ∨ b = db) HR.out.2.2.2.1 ((Chg.of_below (below_drewN wr 1)).trans_ (Chg.of_grow2 hg (.inl rfl) (.inr rfl))) (fun b hb => ?_) HK.out.low HR.out.2.2.2.2.2
           have h1 := HK.out.far.2.2.1
           have h2 := HK.out.far.2.2.2
           have h3 := HK.out.ge
           rcases hb with rfl | rfl <;> omega
          have HPUT : Hid (∀ w4, Grow2 tb db wr.drew w4 → Calls Tryz.prog 35 #[.pointer (some ⟨Y, 0, none⟩), .string nm, .agg #[.int .i64 5, .int .i64 0, .string C, .slice none 0 0], .int .i64 fr] w4 (PutRes B w4 lv0 ks ns nm ⟨5, 0, C, []⟩ fr)) := Lib.hid fun w4 hg =>
           sput_any B Y w4 lv0 ks ns yk ck (HKY.out w4 (hch w4 hg)).1 (HKY.out w4 (hch w4 hg)).2 (HSET.out w4 hg) (by rw [hnl, ← HN.out]; exact hlo.len.symm) (by omega) nm ⟨5, 0, C, []⟩ none 0 ⟨fun k hk => absurd hk (by simp), by simp, by simp, fun k hk => absurd hk (by simp), by simp only; unfold maxLen; omega⟩ (by simp) fr
          have HCL : Hid (∀ w4, Grow2 tb db wr.drew w4 → w4.cell? ⟨X, 0, none⟩ = some (.slice (some ⟨sb, 0, none⟩) t sc) ∧ w4.cell? ⟨sb, q * 6, none⟩ = some (.string nm) ∧ w4.cell? ⟨sb, q * 6 + 5, none⟩ = some (.int .i64 fr)) := Lib.hid fun w4 hg => by
           obtain ⟨a1, a2, a3, _⟩ := hcl w4 (hch w4 hg)
           exact ⟨a1, a2, a3⟩
          have HFIN : Hid (∀ w4 w5 e D' T', Grow2 tb db wr.drew w4 → TxtAt w4 tb t T' → BoolAt w4 db t D' → MadeOk (Px ls) (plO (namesM ls)) t D' T' → PutRes B w4 lv0 ks ns nm ⟨5, 0, C, []⟩ fr e w5 → (∃ E : Int, e = .returned (.int .i64 E)) ∧ (w5.cell? ⟨X, 0, none⟩ = some (.slice (some ⟨sb, 0, none⟩) t sc) ∧ w5.cell? ⟨sb, q * 6, none⟩ = some (.string nm) ∧ w5.cell? ⟨sb, q * 6 + 5, none⟩ = some (.int .i64 fr)) ∧ ∃ ns' : List SetM, ns'.length = t ∧
            (Chg S2 w3 w5 ∧ (0 < t → TxtAt w5 tb t T' ∧ BoolAt w5 db t D') ∧ MadeOk (Px ls) (plO (namesM ls)) t D' T' ∧ SetsAt B w5 lv0 ns' ∧ (∀ j (h1 : j < ns'.length) (h2 : j < ls.length), ns'[j].x = if j < q + 1 then expS ls j ls[j].x else ls[j].x) ∧ (∀ m ∈ ns', ∀ b off, 0 < m.x.val.words.length → m.a = some ⟨b, off, none⟩ → b < w.heap.size))) := Lib.hid fun w4 w5 e D' T' hg ht hd hm hp => by
           obtain ⟨E, he, hcase⟩ := hp
           rcases hcase with ⟨h1, _⟩ | ⟨j, hj, hj2, hpj, hcase⟩
           ·rw [hpl] at h1; omega
           ·rw [hpl] at hpj
            obtain rfl : q = j := by omega
            rcases hcase with ⟨h1, _⟩ | ⟨_, h1, _⟩ | ⟨_, _, _, y, d, hs5, hg5⟩
            ·rw [hmay] at h1; cases h1
            ·exact absurd hfrom h1
            ·have hc5 : Chg S2 w3 w5 := (hch w4 hg).trans_ (Chg.of_grown hg5 HS2.out.2.2.2.1)
             obtain ⟨a1, a2, a3, _⟩ := hcl w5 hc5
             have hfar : ∀ b, X < b → lv0.ownBlock ≠ some b := fun b hb e => by
              have h1 := HK.out.low b e
              have h2 := HK.out.ge
              omega
             refine ⟨⟨E, he⟩, ⟨a1, a2, a3⟩, _, by rw [List.length_set]; exact hnl, hc5, fun h0 => ⟨ht.far (hg5.block tb (lt_of_cell (ht 0 h0).1) (hfar tb HK.out.far.2.2.1).symm), hd.far (hg5.block db (lt_of_cell (hd 0 h0).1) (hfar db HK.out.far.2.2.2).symm)⟩, hm, hs5, fun i h1 h2 => ?_, fun m hm b off hpos e => ?_⟩
             ·rw [List.getElem_set]
              by_cases e : q = i
              ·subst e
               rw [if_pos rfl, if_pos (by omega), hxs, hnq]
              ·rw [if_neg e, HR.out.2.2.2.2.1 i (by simpa using h1) h2]
               by_cases e2 : i < q
               ·rw [if_pos e2, if_pos (by omega)]
               ·rw [if_neg e2, if_neg (by omega)]
             ·rcases List.mem_or_eq_of_mem_set hm with hm | rfl
              ·exact HR.out.2.2.2.2.2 m hm b off hpos e
              ·simp at hpos
          have d0 : wr.drew.cell? ⟨X, 0, none⟩ = some (.slice (some ⟨sb, 0, none⟩) t sc) := (hcl _ hdr).1
          have dn : wr.drew.cell? ⟨sb, q * 6, none⟩ = some (.string nm) := (hcl _ hdr).2.1
          have df : wr.drew.cell? ⟨sb, q * 6 + 5, none⟩ = some (.int .i64 fr) := (hcl _ hdr).2.2.1
          subst ev1
          subst ev3
          clear hmd hmk hCs hmay hfrom hxs hnames hnq hpl hEx hdr hch hcl hlo hap hsbX hkl hql hqk HR HSET hnl nX2 h5
          go_wp2
          go_region_held3 (fun W => W.cell? ⟨X, 0, none⟩ = some (.slice (some ⟨sb, 0, none⟩) t lc0) ∧ W.cell? ⟨sb, q * 6, none⟩ = some (.string nm) ∧ W.cell? ⟨sb, q * 6 + 5, none⟩ = some (.int .i64 fr))
           (first | exact ⟨d0, dn, df⟩ | exact HC5.out | exact HC4.out)
           (first
            | (go_at_call 41; (with_reducible refine HMD.out.mono ?_); rintro e w4 ⟨rfl, hg4, D', T', ht4, hd4, hm4⟩; have HP4 := Lib.hid (HPUT.out w4 hg4); have HC4 := Lib.hid (HCL.out w4 hg4); have HF4 := Lib.hid (fun w5 e => HFIN.out w4 w5 e D' T' hg4 ht4 hd4 hm4); clear hg4 ht4 hd4 hm4; dsimp only)
            | (go_at_call 35; (with_reducible refine HP4.out.mono ?_); rintro e w5 hp5; obtain ⟨⟨E5, rfl⟩, hc5, ns5, hl5, hr5⟩ := HF4.out w5 e hp5; have HC5 := Lib.hid hc5; have HR5 := Lib.hid hr5; clear hp5 hc5 hr5; dsimp only))
          all_goals
           clear HFIN HPUT HCL HMD HP4 HC4 HF4 HC5 d0 dn df k1
           go_wp2
           go_roundw
           case rel => exact ⟨q + 1, ns5, D', T', by go_num, by omega, hl5, HR5⟩
           case measure => simp [intOf]; omega
         ·have HE : Hid (Chg S2 w3 wr ∧ (0 < t → TxtAt wr tb t T ∧ BoolAt wr db t D) ∧ MadeOk (Px ls) (plO (namesM ls)) t D T ∧ SetsAt B wr lv0 ns ∧ (∀ j (h1 : j < ns.length) (h2 : j < ls.length), ns[j].x = if j < q + 1 then expS ls j ls[j].x else ls[j].x) ∧ (∀ m ∈ ns, ∀ b off, 0 < m.x.val.words.length → m.a = some ⟨b, off, none⟩ → b < w.heap.size)) := Lib.hid ⟨HR.out.1, HR.out.2.1, HR.out.2.2.1, HR.out.2.2.2.1, fun j h1 h2 => by
            rw [HR.out.2.2.2.2.1 j h1 h2]
            by_cases e : j = q
            ·subst e
             rw [if_neg (by omega), if_pos (by omega)]
             unfold expS
             rw [if_neg h5]
            ·by_cases e2 : j < q
             ·rw [if_pos e2, if_pos (by omega)]
             ·rw [if_neg e2, if_neg (by omega)], HR.out.2.2.2.2.2⟩
          have HNL := Lib.hid hnl
          generalize ls[q].x.val.kind = kd at *
          subst ev1
          subst ev3
          clear hcl hlo hap hsbX hkl hql hqk HR hnl nX2
          go_wp2
          go_roundw
          case rel => exact ⟨q + 1, ns, D, T, by go_num, by omega, HNL.out, HE⟩
          case measure => simp [intOf]; omega
        ·obtain rfl : q = t := by omega
         have r3 : ¬ (q : Int) < q := by omega
         have HE : Hid (SxRes B w lv0 ms (.returned (.tuple #[.int .i64 0, .string ⟨#[]⟩])) wr) := Lib.hid (SxRes.same HS.out (by
          unfold SxRes
          rw [HWN.out]
          have hg : w.grownBy wr lv0.ownBlock := ⟨HR.out.1.os.trans HB13.out.os, HR.out.1.tape.trans HB13.out.tape, HR.out.1.output.trans HB13.out.output, Nat.le_trans HB13.out.size HR.out.1.size, fun b hb hn => (HR.out.1.block b (Nat.lt_of_lt_of_le hb HB13.out.size) fun e => by
           rcases HS2.out.2.2.2.2 b e with h1 | h1
           ·have := HK.out.ge; omega
           ·exact hn h1.symm).trans (HB13.out.block b hb)⟩
          refine ⟨rfl, hg, ns, HR.out.2.2.2.1, by rw [hnl, HN.out], fun j h1 h2 => ?_⟩
          rw [HR.out.2.2.2.2.1 j h1 h2, if_pos (by omega)]))
         clear HR HS2 HXS HKY HLM HWN HFL HAC HN1 HG HLZ HPZ HK
         go_wp2
         go_ret2
         exact HE.out
end Go.Proofs.YtopghlnoklajkaaGreatDoor
