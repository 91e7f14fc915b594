/-
  RefsEps, RefsShow.
-/
import Derived.Test.YtopghlnoklajkaaGreatDoorQRefsSpW
import Derived.Test.YtopghlnoklajkaaGreatDoorQBut
namespace Go.Proofs.YtopghlnoklajkaaGreatDoor
open Go.ChangeShapes Go.WideShapes Go.ChangeAt Go.RowKit

def fBad (ms : List SetM) : Option Nat := firstB ms.length (fun i => (piecesB (Tx ms i)).isNone)
def fName (ms : List SetM) : Option Nat := firstB ms.length (fun i => (namesL (Px ms i)).any fun nm => (plO (namesM ms) nm).isNone)
open Classical in
noncomputable def fLoop (ms : List SetM) : Option Nat := firstB ms.length (fun i => decide (Lead (scP (Px ms) (plO (namesM ms))) i i))
def Ex (ms : List SetM) (i : Nat) : List UInt8 := expB (Px ms) (plO (namesM ms)) ms.length i
def fLong (ms : List SetM) : Option Nat := firstB ms.length (fun i => decide (200 < (Ex ms i).length))
noncomputable def wrongE (ms : List SetM) : Option (Int × Nat) :=
 match fBad ms with
 | some k => some (100, k)
 | none => match fName ms with
  | some k => some (101, k)
  | none => match fLoop ms with
   | some k => some (102, k)
   | none => match fLong ms with
    | some k => some (103, k)
    | none => none
def nameAt (ms : List SetM) (k : Nat) : ByteArray := (namesM ms).getD k ⟨#[]⟩
def EpRes (ms : List SetM) (w : World) (e : Ending) (w' : World) : Prop := Below w.heap.size w w' ∧
 match wrongE ms with
 | some (E, k) => e = .returned (.tuple #[.map none, .int .i64 E, .string (nameAt ms k)])
 | none => ∃ Kb k1 Kx, e = .returned (.tuple #[.map (some Kb), .int .i64 0, .string ⟨#[]⟩]) ∧ VMap w' Kb k1 (fK (namesM ms) (fun _ => true) Kx) ∧ ∀ i, i < ms.length → Kx i = (Ex ms i, false)
theorem field_long (W : World) (t : ByteArray) (b : Bool) : (Instr.field 93 (.agg #[.string t, .bool b]) 1).run Tryz.prog W = .ok (.bool b) W := by
 simp [Instr.field, asAgg, run_underlying Tryz.underlying93, Tryz.isAgg4, go_sem]
theorem below_grown {w w1 w2 : World} {M : Nat} (h : Below w.heap.size w w1) (hg : w1.grownBy w2 (some M)) (hM : w.heap.size ≤ M) : Below w.heap.size w w2 :=
 h.grown hg h.size (fun k hk => by injection hk with hk; omega)
structure EpIn (S : Spk) (ns : List ByteArray) (n : Nat) (w : World) (M Kb k1 : Nat) (D : Nat → Bool) (Kx : Nat → List UInt8 × Bool) (B : Nat) (lv : Value) (ms : List SetM) (wr : World) : Prop where
 below : Below w.heap.size w wr
 um : VMap wr M n (fU S ns (fun j => !D j))
 kn : VMap wr Kb k1 (fK ns D Kx)
 spk : SpkAt wr S n
 all : SetsAt B wr lv ms
theorem EpIn.after {S : Spk} {ns : List ByteArray} {n : Nat} {w wr w' : World} {M Kb k1 : Nat} {D : Nat → Bool} {Kx : Nat → List UInt8 × Bool} {B : Nat} {lv : Value} {ms : List SetM} (h : EpIn S ns n w M Kb k1 D Kx B lv ms wr) (hb : Below wr.heap.size wr w') : EpIn S ns n w M Kb k1 D Kx B lv ms w' :=
 ⟨h.below.trans (hb.mono h.below.size), h.um.below hb, h.kn.below hb, h.spk.below hb, h.all.below hb⟩
structure MsOk (ms : List SetM) : Prop where
 dis : Dis (namesM ms)
 small : ∀ s ∈ namesM ms, s.size ≤ 32
 some_ : ∀ s ∈ namesM ms, s.data.toList ≠ []
 right : ∀ m ∈ ms, rightV m.x.val = true
 few : ms.length ≤ 1000
theorem MsOk.empty {ms : List SetM} (h : MsOk ms) : plO (namesM ms) [] = none := by
 cases hk : plO (namesM ms) [] with
 | none => rfl
 | some k =>
  obtain ⟨h1, h2⟩ := pl_is hk
  exact absurd h2 (h.some_ _ (List.getElem_mem h1))
theorem placed {ms : List SetM} (h : fName ms = none) : ∀ i, i < ms.length → ∀ nm ∈ namesL (Px ms i), ∃ k, plO (namesM ms) nm = some k ∧ k < ms.length := fun i hi nm hn => by
 have h1 := firstB_no h i hi
 have h2 := List.any_eq_false.1 h1 nm hn
 cases hp : plO (namesM ms) nm with
 | none => rw [hp] at h2; simp at h2
 | some k =>
  obtain ⟨h3, _⟩ := pl_is hp
  exact ⟨k, rfl, by unfold namesM at h3; rw [List.length_map] at h3; exact h3⟩
theorem formed {ms : List SetM} (h : fBad ms = none) : ∀ i, i < ms.length → piecesB (Tx ms i) = some (Px ms i) := fun i hi => by
 have h1 := firstB_no h i hi
 cases hp : piecesB (Tx ms i) with
 | none => rw [hp] at h1; cases h1
 | some l => rw [Px_is hp]
theorem inside {ms : List SetM} (h : fName ms = none) : ∀ i, i < ms.length → ∀ k ∈ scP (Px ms) (plO (namesM ms)) i, k < ms.length := fun i hi k hk => by
 obtain ⟨nm, h1, h2⟩ := mem_sc.1 hk
 obtain ⟨k', h3, h4⟩ := placed h i hi nm h1
 rw [h2] at h3
 injection h3 with h3
 omega
theorem sp_res {ms : List SetM} {w w' : World} {e : Ending} (h : SpRes ms w e w') : Below w.heap.size w w' ∧
 match fBad ms with
 | some k => e = .returned (.tuple #[.map none, .int .i64 100, .string (nameAt ms k)])
 | none => match fName ms with
  | some k => e = .returned (.tuple #[.map none, .int .i64 101, .string (nameAt ms k)])
  | none => ∃ X C, e = .returned (.tuple #[.map (some w.heap.size), .int .i64 0, .string ⟨#[]⟩]) ∧ VMap w' w.heap.size ms.length (fU ⟨Tx ms, Px ms, X, C⟩ (namesM ms) (fun _ => true)) ∧ SpkAt w' ⟨Tx ms, Px ms, X, C⟩ ms.length := h
set_option maxHeartbeats 6400000 in
set_option maxRecDepth 100000 in
theorem expansions_any (B : Nat) (lv : Value) (ms : List SetM) (n : Nat) (w : World) (hall : SetsAt B w lv ms) (hn : ms.length = n) (hok : MsOk ms) (hS : Std w) :
  Calls Tryz.prog 37 #[lv] w (EpRes ms w) := by
 have hnl : (namesM ms).length = n := by unfold namesM; rw [List.length_map]; exact hn
 have hn2 : n ≤ 1000 := by rw [← hn]; exact hok.few
 have hsz : ∀ s ∈ namesM ms, s.size ≤ 4294967280 := fun s hs => Nat.le_trans (hok.small s hs) (by decide)
 have HSK := Lib.hid (speakers_any B lv ms n w hall hn hok.dis hsz hok.right (by omega) hS)
 have HUW : Hid (fBad ms = none → fName ms = none → ∀ X C W, Below w.heap.size w W → VMap W w.heap.size n (fU ⟨Tx ms, Px ms, X, C⟩ (namesM ms) (fun _ => true)) → SpkAt W ⟨Tx ms, Px ms, X, C⟩ n → Calls Tryz.prog 76 #[lv, .map (some w.heap.size)] W (XuRes ⟨Tx ms, Px ms, X, C⟩ (namesM ms) W w.heap.size n)) := Lib.hid fun h1 h2 X C W hb hv hsp => by
  refine under_any B lv ms ⟨Tx ms, Px ms, X, C⟩ n W w.heap.size n (hall.below hb) hn hok.dis hok.empty hsz hv hsp (fun i hi => ?_) (fun i _ => Nat.le_trans (Px_len ms i) (by decide)) (fun i _ nm hnm => ?_) (fun i hi => formed h1 i (by rw [hn]; exact hi)) (fun i _ => Nat.le_trans (Tx_len ms i) (by decide)) (by omega) (Lib.hid fun W' hg => ?_)
  ·have := placed h2 i (by rw [hn]; exact hi)
   rw [hn] at this; exact this
  ·have h := Px_names ms i hnm
   unfold nameB at h
   simp only [Bool.and_eq_true, decide_eq_true_eq] at h
   omega
  ·have h3 := below_grown hb hg (Nat.le_refl _)
   exact ⟨hS.maxI.below h3, hS.tab.below h3⟩
 have HALL : Hid (∀ W, Below w.heap.size w W → SetsAt B W lv ms) := Lib.hid fun W hW => hall.below hW
 have HNL := Lib.hid hnl
 have HN := Lib.hid hn
 have HOK := Lib.hid hok
 have HZ := Lib.hid hsz
 obtain ⟨x0, c0', hlv⟩ := hall.form
 rw [hn] at hlv
 subst hlv
 clear hall hn hok hnl hsz hS
 go_enter Tryz.func37, Tryz.ntmps37
 go_wp2_with fail
 refine HSK.out.mono ?_
 rintro e w1 hsp
 obtain ⟨hb1, h1⟩ := sp_res hsp
 have HB1 := Lib.hid hb1
 clear hsp hb1 HSK
 cases hB : fBad ms with
 | some k =>
  rw [hB] at h1
  simp only at h1
  subst h1
  have HE : Hid (EpRes ms w (.returned (.tuple #[.map none, .int .i64 100, .string (nameAt ms k)])) w1) := Lib.hid ⟨HB1.out, by unfold wrongE; rw [hB]⟩
  clear hB HUW HALL HNL HN HOK HZ
  go_wp2
  go_ret3
  exact HE.out
 | none =>
  rw [hB] at h1
  simp only at h1
  cases hF : fName ms with
  | some k =>
   rw [hF] at h1
   simp only at h1
   subst h1
   have HE : Hid (EpRes ms w (.returned (.tuple #[.map none, .int .i64 101, .string (nameAt ms k)])) w1) := Lib.hid ⟨HB1.out, by unfold wrongE; rw [hB, hF]⟩
   clear hB hF HUW HALL HNL HN HOK HZ
   go_wp2
   go_ret3
   exact HE.out
  | none =>
   rw [hF] at h1
   simp only at h1
   obtain ⟨X, C, rfl, hv1, hs1⟩ := h1
   rw [HN.out] at hv1 hs1
   have HU := Lib.hid (HUW.out hB hF X C w1 HB1.out hv1 hs1)
   have HV1 := Lib.hid (And.intro hv1 hs1)
   have HBF := Lib.hid (And.intro hB hF)
   clear hB hF HUW hv1 hs1
   go_wp2_with fail
   refine HU.out.mono ?_
   rintro e w2 ⟨D, Kx, k1, rfl, hx, hcl⟩
   have HIN : Hid (EpIn ⟨Tx ms, Px ms, X, C⟩ (namesM ms) n w w.heap.size w1.heap.size k1 D Kx B (.slice x0 n c0') ms w2) := Lib.hid (by
    have hb := below_grown HB1.out hx.gr (Nat.le_refl _)
    exact ⟨hb, hx.um, hx.kn, HV1.out.2.map HV1.out.1 hx.gr, HALL.out w2 hb⟩)
   have HKN := Lib.hid hx.ok
   have HCL : Hid (∀ i, i < n → D i = false → ∃ k ∈ scP (Px ms) (plO (namesM ms)) i, D k = false) := Lib.hid (by rw [← HNL.out]; exact hcl)
   clear hx hcl HU HV1 HB1 HALL
   have H0 : Hid (∀ i, i < 0 → ¬ Lead (scP (Px ms) (plO (namesM ms))) i i) := Lib.hid fun i hi => by omega
   go_wp2
   go_loopw [28] (fun i wr => ∃ q : Nat, i = .int .i64 q ∧ q ≤ n ∧ Hid (EpIn ⟨Tx ms, Px ms, X, C⟩ (namesM ms) n w w.heap.size w1.heap.size k1 D Kx B (.slice x0 n c0') ms wr) ∧ Hid (∀ i, i < q → ¬ Lead (scP (Px ms) (plO (namesM ms))) i i)) (fun i _ => n - (intOf i).toNat)
   case atStart => exact ⟨0, rfl, by omega, HIN, H0⟩
   case round =>
    clear HIN H0
    obtain ⟨q, rfl, hq, HI, HA⟩ := hrel
    by_cases hlt : q < n
    ·have q1 : (0 : Int) ≤ q := by omega
     have q2 : (q : Int) < n := by omega
     have hkm : q < ms.length := by rw [HN.out]; exact hlt
     have hkn : q < (namesM ms).length := by rw [HNL.out]; exact hlt
     obtain ⟨b, c, hbe, _, hcs⟩ := HI.out.all.cells hkm
     injection hbe with hbe hx1 hx2
     have e0 := hcs 0 (by decide)
     have e1 := hcs 1 (by decide)
     have e2 := hcs 2 (by decide)
     have e3 := hcs 3 (by decide)
     have e4 := hcs 4 (by decide)
     have e5 := hcs 5 (by decide)
     rw [Nat.add_zero] at e0
     have hnm : (namesM ms)[q] = ms[q].x.name := by simp [namesM]
     have hNN : nameAt ms q = (namesM ms)[q] := by unfold nameAt; rw [List.getD_eq_getElem?_getD, List.getElem?_eq_getElem hkn]; rfl
     rw [hnm] at hNN
     have HLD : Hid (∀ W, EpIn ⟨Tx ms, Px ms, X, C⟩ (namesM ms) n w w.heap.size w1.heap.size k1 D Kx B (.slice x0 n c0') ms W → ∀ W2, Below W.heap.size W W2 → VMap W2 W.heap.size n (fU ⟨Tx ms, Px ms, X, C⟩ (namesM ms) (fun j => !D j)) → Calls Tryz.prog 77 #[.string (ms[q]).x.name, .string (ms[q]).x.name, .map (some W.heap.size)] W2 fun e w' => ∃ r, e = .returned (.bool r) ∧ (r = true → Lead (scP (Px ms) (plO (namesM ms))) q q) ∧ (r = false → ¬ Lead (scP (Px ms) (plO (namesM ms))) q q) ∧ Below W.heap.size W w') := Lib.hid fun W hW W2 hb hv => by
      have := leads_any ⟨Tx ms, Px ms, X, C⟩ (namesM ms) n HNL.out HOK.out.dis HZ.out W2 W.heap.size n (Lib.hid fun W3 hg => (hW.spk.below hb).map hv hg) (by have := placed HBF.out.2; rw [HN.out] at this; exact this) (fun i _ => Nat.le_trans (Px_len ms i) (by decide)) q hlt _ q (fun j => !D j) W2 rfl ⟨rfl, rfl, rfl, Nat.le_refl _, fun _ _ _ => rfl⟩ hv hlt
      rw [hnm] at this
      refine this.mono ?_
      rintro e w' ⟨r, U', rfl, hg, _, _, hr1, hr2⟩
      have hin := inside HBF.out.2
      rw [HN.out] at hin
      exact ⟨r, rfl, hr1, fun h => HKN.out.sought (hr2 h) hin hlt, hb.grown hg hb.size (fun k hk => by injection hk with hk; omega)⟩
     have HMC : Hid (∀ W, EpIn ⟨Tx ms, Px ms, X, C⟩ (namesM ms) n w w.heap.size w1.heap.size k1 D Kx B (.slice x0 n c0') ms W → Calls Tryz.prog 78 #[.map (some w.heap.size)] W fun e w' => e = .returned (.map (some W.heap.size)) ∧ VMap w' W.heap.size n (fU ⟨Tx ms, Px ms, X, C⟩ (namesM ms) (fun j => !D j)) ∧ Below W.heap.size W w') := Lib.hid fun W hW => mclone_any _ _ _ W hW.um
     have HE : Hid (Lead (scP (Px ms) (plO (namesM ms))) q q → ∀ w', Below w.heap.size w w' → EpRes ms w (.returned (.tuple #[.map none, .int .i64 102, .string (ms[q]).x.name])) w') := Lib.hid fun hl w' hb => by
      refine ⟨hb, ?_⟩
      have h2 : fLoop ms = some q := firstB_some (fun j hj => by simpa using HA.out j hj) hkm (by simpa using hl)
      unfold wrongE
      rw [HBF.out.1, HBF.out.2, h2]
      simp only
      rw [hNN]
     have HB0 : Hid (∀ o, EpIn ⟨Tx ms, Px ms, X, C⟩ (namesM ms) n w w.heap.size w1.heap.size k1 D Kx B (.slice x0 n c0') ms (wr.alloc o).drew) := Lib.hid fun o => (HI.out.after (below_one wr o)).after (below_drewN _ 1)
     have HA2 : Hid (¬ Lead (scP (Px ms) (plO (namesM ms))) q q → ∀ i, i < q + 1 → ¬ Lead (scP (Px ms) (plO (namesM ms))) i i) := Lib.hid fun h i hi => by
      by_cases e : i = q
      ·subst e; exact h
      ·exact HA.out i (by omega)
     generalize hmq : ms[q] = m at *
     obtain ⟨⟨nm, ⟨kd, it, tx, ws⟩, fr⟩, a, mc⟩ := m
     simp only [sCells, List.getElem?_cons_zero, List.getElem?_cons_succ] at e0 e1 e2 e3 e4 e5 HLD HE
     subst hbe
     clear hcs hx1 hx2 hnm hNN hmq HI HA
     have HBA := Lib.hid (HB0.out (Obj.cells #[.string nm, .int .i64 kd, .int .i64 it, .string tx, .slice a ws.length mc, .int .i64 fr] 50))
     have f0 : (wr.alloc (Obj.cells #[.string nm, .int .i64 kd, .int .i64 it, .string tx, .slice a ws.length mc, .int .i64 fr] 50)).drew.cell? ⟨wr.heap.size, 0, none⟩ = some (.string nm) := by show (wr.alloc _).cell? _ = _; simp
     have HF0 := Lib.hid f0
     have hWs : (wr.alloc (Obj.cells #[.string nm, .int .i64 kd, .int .i64 it, .string tx, .slice a ws.length mc, .int .i64 fr] 50)).drew.heap.size = wr.heap.size + 1 := by show (wr.alloc _).heap.size = _; simp
     have HMA := HMC.out _ HBA.out
     have HLA := HLD.out _ HBA.out
     obtain ⟨WS, hWS⟩ : ∃ s, (wr.alloc (Obj.cells #[.string nm, .int .i64 kd, .int .i64 it, .string tx, .slice a ws.length mc, .int .i64 fr] 50)).drew.heap.size = s := ⟨_, rfl⟩
     rw [hWS] at HMA HLA
     rw [hWS] at hWs
     subst hWs
     have HMB := Lib.hid HMA
     have HLB := Lib.hid HLA
     have HWS := Lib.hid hWS
     clear HB0 HMA HLA HMC HLD hWS
     go_wp2_with fail
     go_region_law (first
      | (go_simp; (with_reducible refine HMB.out.mono ?_); rintro e w5 ⟨rfl, hv5, hb5⟩; have HV5 := Lib.hid (And.intro hv5 hb5); have f5 : w5.cell? ⟨wr.heap.size, 0, none⟩ = some (.string nm) := (hb5.cell (p := ⟨wr.heap.size, 0, none⟩) (Nat.lt_succ_self _)).trans HF0.out; clear hv5 hb5; dsimp only)
      | (go_simp; (with_reducible refine (HLB.out _ HV5.out.2 HV5.out.1).mono ?_); rintro e w6 ⟨r, rfl, hr1, hr2, hb6⟩; have HR6 := Lib.hid (And.intro hr1 (And.intro hr2 hb6)); have f6 : w6.cell? ⟨wr.heap.size, 0, none⟩ = some (.string nm) := (hb6.cell (p := ⟨wr.heap.size, 0, none⟩) (Nat.lt_succ_self _)).trans HF0.out; clear hr1 hr2 hb6; dsimp only))
     all_goals
      have HI6 := Lib.hid (HBA.out.after (by rw [HWS.out]; exact HR6.out.2.2))
      cases r with
      | true =>
       have HF := Lib.hid (HE.out (HR6.out.1 rfl) w6.drew (HI6.out.below.trans ((below_drewN w6 1).mono HI6.out.below.size)))
       have g6 : w6.drew.cell? ⟨wr.heap.size, 0, none⟩ = some (.string nm) := f6
       clear HE HA2 HI6 HBA HF0 HMB HLB HWS HV5 HR6 f5 f6 f0 HCL HKN HBF HOK HZ HN HNL
       go_wp2
       go_region
       all_goals
        go_wp2
        go_ret3
        exact HF.out
      | false =>
       have HA3 := Lib.hid (HA2.out (HR6.out.2.1 rfl))
       clear HE HA2 HBA HF0 HMB HLB HWS HV5 HR6 f5 f6 f0
       go_wp2
       go_roundw
       case rel => exact ⟨q + 1, by go_num, by omega, HI6, HA3⟩
       case measure => simp [intOf]; omega
    ·obtain rfl : q = n := by omega
     have q2 : ¬ (q : Int) < q := by omega
     have hin := inside HBF.out.2
     rw [HN.out] at hin
     have hall := HKN.out.all hin HCL.out (fun i hi => HA.out i hi)
     have HAL := Lib.hid hall
     have hfl : fLoop ms = none := firstB_none fun j hj => by
      have := HA.out j (by rw [← HN.out]; exact hj)
      simpa using this
     have HFL := Lib.hid hfl
     have HKX : Hid (∀ i, i < q → Kx i = cutX (Ex ms i)) := Lib.hid (by
      have := HKN.out.exp hin (fun i hi p hp hr hnone => by
       obtain ⟨k', h1, _⟩ := placed HBF.out.2 i (by rw [HN.out]; exact hi) p.1 ((mem_namesL _ _).2 ⟨p, hp, hr, rfl⟩)
       rw [hnone] at h1; cases h1) (fun i hi => HA.out i hi) hall
      unfold Ex
      rw [HN.out]; exact this)
     clear hin hall hfl HA HCL HKN
     have H1 : Hid (∀ i, i < 0 → ¬ 200 < (Ex ms i).length) := Lib.hid fun i hi => by omega
     go_wp2
     go_loopw [44] (fun i wr => ∃ k : Nat, i = .int .i64 k ∧ k ≤ q ∧ Hid (EpIn ⟨Tx ms, Px ms, X, C⟩ (namesM ms) q w w.heap.size w1.heap.size k1 D Kx B (.slice x0 q c0') ms wr) ∧ Hid (∀ i, i < k → ¬ 200 < (Ex ms i).length)) (fun i _ => q - (intOf i).toNat)
     case atStart => exact ⟨0, rfl, by omega, HI, H1⟩
     case round =>
      clear HI H1
      obtain ⟨k, rfl, hk, HI, HA⟩ := hrel
      by_cases hlt : k < q
      ·have q1 : (0 : Int) ≤ k := by omega
       have q2 : (k : Int) < q := by omega
       have hkm : k < ms.length := by rw [HN.out]; exact hlt
       have hkn : k < (namesM ms).length := by rw [HNL.out]; exact hlt
       obtain ⟨b, c, hbe, _, hcs⟩ := HI.out.all.cells hkm
       injection hbe with hbe hx1 hx2
       have e0 := hcs 0 (by decide)
       have e1 := hcs 1 (by decide)
       have e2 := hcs 2 (by decide)
       have e3 := hcs 3 (by decide)
       have e4 := hcs 4 (by decide)
       have e5 := hcs 5 (by decide)
       rw [Nat.add_zero] at e0
       have hnm : (namesM ms)[k] = ms[k].x.name := by simp [namesM]
       have hNN : nameAt ms k = (namesM ms)[k] := by unfold nameAt; rw [List.getD_eq_getElem?_getD, List.getElem?_eq_getElem hkn]; rfl
       rw [hnm] at hNN
       have hsx := HZ.out _ (List.getElem_mem hkn)
       rw [hnm] at hsx
       have hg := fK_get (namesM ms) D Kx ((namesM ms)[k]).data.toList
       unfold kOf at hg
       rw [pl_self HOK.out.dis hkn] at hg
       simp only [HAL.out k hlt, if_true] at hg
       rw [HKX.out k hlt, hnm] at hg
       have HE : Hid (200 < (Ex ms k).length → ∀ w', Below w.heap.size w w' → EpRes ms w (.returned (.tuple #[.map none, .int .i64 103, .string (ms[k]).x.name])) w') := Lib.hid fun hl w' hb => by
        refine ⟨hb, ?_⟩
        have h2 : fLong ms = some k := firstB_some (fun j hj => by simpa using HA.out j hj) hkm (by simpa using hl)
        unfold wrongE
        rw [HBF.out.1, HBF.out.2, HFL.out, h2]
        simp only
        rw [hNN]
       have HA2 : Hid (¬ 200 < (Ex ms k).length → ∀ i, i < k + 1 → ¬ 200 < (Ex ms i).length) := Lib.hid fun h i hi => by
        by_cases e : i = k
        ·subst e; exact h
        ·exact HA.out i (by omega)
       have HB0 : Hid (∀ o, EpIn ⟨Tx ms, Px ms, X, C⟩ (namesM ms) q w w.heap.size w1.heap.size k1 D Kx B (.slice x0 q c0') ms (wr.alloc o)) := Lib.hid fun o => HI.out.after (below_one wr o)
       have hfd := field_long
       generalize hmq : ms[k] = m at *
       obtain ⟨⟨nm, ⟨kd, it, tx, ws⟩, fr⟩, a, mc⟩ := m
       simp only [sCells, List.getElem?_cons_zero, List.getElem?_cons_succ] at e0 e1 e2 e3 e4 e5 HE hsx hg
       have hnz : nm.size ≤ maxLen := by unfold maxLen; omega
       subst hbe
       clear hcs hx1 hx2 hnm hNN hmq HI HA hsx
       by_cases hl : 200 < (Ex ms k).length
       ·have hg2 : (fK (namesM ms) D Kx nm.data.toList).getD (exV ([], false)) = .agg #[.string ⟨#[]⟩, .bool true] := by
         rw [hg]; unfold cutX; rw [if_pos hl]; rfl
        have HF := Lib.hid (HE.out hl)
        clear hg HE HA2 hl
        go_wp2_with (first
         | (at_lookup; refine wpList_look_v rfl _ _ 89 93 rfl Tryz.underlying89 _ (zeroX _) rfl _ rfl (HB0.out _).kn hnz _ hg2 ?_)
         | fail)
        have g6 : (wr.alloc (Obj.cells #[.string nm, .int .i64 kd, .int .i64 it, .string tx, .slice a ws.length mc, .int .i64 fr] 50)).drew.cell? ⟨wr.heap.size, 0, none⟩ = some (.string nm) := by show (wr.alloc _).cell? _ = _; simp
        have HG := Lib.hid (HF.out (wr.alloc (Obj.cells #[.string nm, .int .i64 kd, .int .i64 it, .string tx, .slice a ws.length mc, .int .i64 fr] 50)).drew ((HB0.out _).below.trans ((below_drewN _ 1).mono (HB0.out _).below.size)))
        clear HB0 HF hfd HBF HFL HKX HAL HNL HN HOK HZ
        go_region
        all_goals
         go_wp2
         go_ret3
         exact HG.out
       ·have hg2 : (fK (namesM ms) D Kx nm.data.toList).getD (exV ([], false)) = .agg #[.string (mkB (Ex ms k)), .bool false] := by
         rw [hg]; unfold cutX; rw [if_neg hl]; rfl
        have HF := Lib.hid (HA2.out hl)
        clear hg HE HA2 hl
        generalize mkB (Ex ms k) = XB at *
        go_wp2_with (first
         | (at_lookup; refine wpList_look_v rfl _ _ 89 93 rfl Tryz.underlying89 _ (zeroX _) rfl _ rfl (HB0.out _).kn hnz _ hg2 ?_)
         | fail)
        go_roundw
        case rel => exact ⟨k + 1, by go_num, by omega, Lib.hid (HB0.out _), HF⟩
        case measure => simp [intOf]; omega
      ·obtain rfl : k = q := by omega
       have HE : Hid (EpRes ms w (.returned (.tuple #[.map (some w1.heap.size), .int .i64 0, .string ⟨#[]⟩])) wr) := Lib.hid (by
        refine ⟨HI.out.below, ?_⟩
        have h2 : fLong ms = none := firstB_none fun j hj => by
         have := HA.out j (by rw [← HN.out]; exact hj)
         simpa using this
        unfold wrongE
        rw [HBF.out.1, HBF.out.2, HFL.out, h2]
        simp only
        refine ⟨_, k1, Kx, rfl, HI.out.kn.ext fun n1 => ?_, fun i hi => ?_⟩
        ·unfold fK
         cases hp : plO (namesM ms) n1 with
         | none => rfl
         | some j =>
          obtain ⟨h3, _⟩ := pl_is hp
          rw [HNL.out] at h3
          simp [HAL.out j h3]
        ·rw [HN.out] at hi
         rw [HKX.out i hi]
         unfold cutX
         rw [if_neg (HA.out i hi)])
       clear HI HA HBF HFL HKX HAL HNL HN HOK HZ
       go_wp2
       go_ret3
       exact HE.out
end Go.Proofs.YtopghlnoklajkaaGreatDoor

namespace Go.Proofs.YtopghlnoklajkaaGreatDoor

theorem after_sub {d : UInt8} {l : List UInt8} {c : UInt8} (h : c ∈ after d l) : c ∈ l := by
 unfold after at h
 exact (List.dropWhile_sublist _).mem (List.mem_of_mem_drop h)
theorem scanP_bytes (Q : UInt8 → Prop) (h36 : Q 36) : ∀ (f : Nat) (r b : List UInt8) (l out : List PcB), scanP f r b l = some out → (∀ c ∈ r, Q c) → (∀ c ∈ b, Q c) → (∀ p ∈ l, p.2 = false → ∀ c ∈ p.1, Q c) → ∀ p ∈ out, p.2 = false → ∀ c ∈ p.1, Q c := by
 intro f
 have base : ∀ (b : List UInt8) (l out : List PcB), some (l ++ [(b, false)]) = some out → (∀ c ∈ b, Q c) → (∀ p ∈ l, p.2 = false → ∀ c ∈ p.1, Q c) → ∀ p ∈ out, p.2 = false → ∀ c ∈ p.1, Q c := by
  intro b l out h hb hl p hp hr
  rw [← Option.some.inj h] at hp
  rcases List.mem_append.1 hp with hp | hp
  ·exact hl p hp hr
  ·rw [List.mem_singleton.1 hp]; exact hb
 induction f with
 | zero => intro r b l out h _ hb hl; exact base b l out h hb hl
 | succ f ih =>
  intro r b l out h hr0 hb hl
  cases r with
  | nil => exact base b l out h hb hl
  | cons c r =>
   have hrr : ∀ x ∈ r, Q x := fun x hx => hr0 x (List.mem_cons_of_mem _ hx)
   unfold scanP at h
   split at h
   ·cases r with
    | nil => cases h
    | cons d r' =>
     have hr3 : ∀ x ∈ r', Q x := fun x hx => hrr x (List.mem_cons_of_mem _ hx)
     simp only at h
     split at h
     ·refine ih _ _ _ _ h hr3 (fun x hx => ?_) hl
      rcases List.mem_append.1 hx with hx | hx
      ·exact hb x hx
      ·rw [List.mem_singleton.1 hx]; exact h36
     ·split at h
      ·split at h
       ·refine ih _ _ _ _ h (fun x hx => hr3 x (after_sub hx)) (fun x hx => by cases hx) (fun p hp hr => ?_)
        rcases List.mem_append.1 hp with hp | hp
        ·exact hl p hp hr
        ·rcases List.mem_cons.1 hp with rfl | hp
         ·exact hb
         ·rw [List.mem_singleton.1 hp] at hr; cases hr
       ·cases h
      ·cases h
   ·refine ih _ _ _ _ h hrr (fun x hx => ?_) hl
    rcases List.mem_append.1 hx with hx | hx
    ·exact hb x hx
    ·rw [List.mem_singleton.1 hx]; exact hr0 c (List.mem_cons_self ..)
theorem allText_iff (s : List UInt8) : allText s = true ↔ ∀ c ∈ s, printB c.toNat = true := by unfold allText; exact List.all_eq_true
theorem allText_append (a b : List UInt8) : allText (a ++ b) = (allText a && allText b) := by unfold allText; exact List.all_append ..
theorem digits_text (n : Nat) : allText (Lib.decDigits n) = true := by
 rw [allText_iff]
 intro c hc
 have := List.all_eq_true.1 (digits_all n) c hc
 unfold isD at this
 unfold printB
 simp only [decide_eq_true_eq] at this ⊢
 omega
theorem itoa_text (n : Int) : allText (Lib.itoa n) = true := by
 unfold Lib.itoa
 split
 ·rw [allText_iff]
  intro c hc
  rcases List.mem_cons.1 hc with rfl | hc
  ·decide
  ·exact (allText_iff _).1 (digits_text _) c hc
 ·exact digits_text _
theorem unit_text (k n : Int) : allText (unitFor k n).2 = true := by
 unfold unitFor
 repeat' split
 all_goals decide
theorem inWord_print {c : UInt8} (h : inWordB c.toNat = true) : printB c.toNat = true := by
 unfold inWordB cls at h
 unfold printB
 simp only [decide_eq_true_eq] at h ⊢
 have := c.toNat_lt
 repeat' split at h
 all_goals omega
theorem join_text (v : List ByteArray) (h : allWords (wl v) = true) : allText (joinW v) = true := by
 unfold joinW
 have key : ∀ l : List (List UInt8), allWords l = true → ∀ w ∈ l, allText w = true := fun l hl w hw => by
  have h1 := List.all_eq_true.1 hl w hw
  unfold wordB allWord at h1
  simp only [Bool.and_eq_true] at h1
  rw [allText_iff]
  exact fun c hc => inWord_print (List.all_eq_true.1 h1.2 c hc)
 generalize wl v = l at h
 have k := key l h
 clear key h
 cases l with
 | nil => rfl
 | cons a r =>
  rw [Lib.join_cons, allText_append, k a (List.mem_cons_self ..), Bool.true_and]
  have k2 : ∀ w ∈ r, allText w = true := fun w hw => k w (List.mem_cons_of_mem _ hw)
  clear k
  induction r with
  | nil => rfl
  | cons b r ih =>
   have e : Lib.joinTail [44] (b :: r) = ([44] ++ b) ++ Lib.joinTail [44] r := rfl
   rw [e, allText_append, allText_append, k2 b (List.mem_cons_self ..), ih fun w hw => k2 w (List.mem_cons_of_mem _ hw)]
   decide
theorem print_text {v : Val} (h : rightV v = true) : allText (printV v) = true := by
 obtain ⟨k, n, t, ws⟩ := v
 unfold rightV at h
 unfold printV
 simp only at h ⊢
 split at h
 ·rename_i hk; rw [if_pos hk]; split <;> decide
 ·rename_i h1
  rw [if_neg h1]
  split at h
  ·rename_i hk; rw [if_pos hk]; exact itoa_text _
  ·rename_i h2
   rw [if_neg h2]
   split at h
   ·rename_i hk
    rw [if_pos hk, allText_append, itoa_text, unit_text]; rfl
   ·rename_i h3
    rw [if_neg h3]
    split at h
    ·rename_i hk
     rw [if_pos hk]
     simp only [Bool.and_eq_true, decide_eq_true_eq] at h
     have h4 := h.1.2
     unfold textV at h4
     cases ha : allText t.data.toList with
     | true => rfl
     | false => rw [ha] at h4; simp at h4
    ·rename_i h5
     rw [if_neg h5]
     split at h
     ·simp only [Bool.and_eq_true, decide_eq_true_eq, wordsRight] at h
      exact join_text _ h.2.1.2
     ·cases h
theorem Tx_text {ms : List SetM} (i : Nat) : allText (Tx ms i) = true := by
 unfold Tx
 split
 ·rename_i m _
  unfold printR
  split
  ·rename_i hr; exact print_text hr
  ·rfl
 ·rfl
theorem Px_text {ms : List SetM} (i : Nat) : ∀ p ∈ Px ms i, p.2 = false → allText p.1 = true := fun p hp hr => by
 unfold Px at hp
 cases h : piecesB (Tx ms i) with
 | none => rw [h] at hp; cases hp
 | some l =>
  rw [h] at hp
  rw [allText_iff]
  exact scanP_bytes (fun c => printB c.toNat = true) (by decide) _ _ _ _ _ h ((allText_iff _).1 (Tx_text i)) (fun c hc => by cases hc) (fun p hp => by cases hp) p hp hr
theorem expF_text {ms : List SetM} : ∀ (f i : Nat), allText (expF (Px ms) (plO (namesM ms)) f i) = true := by
 intro f
 induction f with
 | zero => intro i; rfl
 | succ f ih =>
  intro i
  unfold expF
  rw [allText_iff]
  intro c hc
  obtain ⟨p, hp, hc⟩ := List.mem_flatMap.1 hc
  unfold pieceX at hc
  split at hc
  ·split at hc
   ·exact (allText_iff _).1 (ih _) c hc
   ·cases hc
  ·rename_i hr
   exact (allText_iff _).1 (Px_text i p hp (by simpa using hr)) c hc
theorem Ex_text {ms : List SetM} (i : Nat) : allText (Ex ms i) = true := expF_text _ _
end Go.Proofs.YtopghlnoklajkaaGreatDoor
