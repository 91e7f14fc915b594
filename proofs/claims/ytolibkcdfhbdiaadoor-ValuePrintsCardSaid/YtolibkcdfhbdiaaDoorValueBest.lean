/-
  The walks of 'value.unitOf' and of the document's own 'greatest', with the numeral's walk 'digits'.
-/
import Derived.Test.YtolibkcdfhbdiaaDoorValueUnit
namespace Go.Proofs.YtolibkcdfhbdiaaDoor
open Go.ChangeShapes Go.WideShapes Go.ChangeAt Go.RowKit

/-- The row that is found: the last one that fits. -/
def bestIn (k n : Int) : List (Int × ByteArray × Int) → Int × ByteArray × Int → Int × ByteArray × Int
  | [], cur => cur
  | x :: r, cur => bestIn k n r (if x.1 = k ∧ x.2.2 ≤ max n 1 ∧ n % x.2.2 = 0 then x else cur)
theorem fits {v n : Int} (hv : 2 ≤ v) : (v ≤ max n 1 ∧ n % v = 0) ↔ (0 < n ∧ n % v = 0) := by
  constructor
  · rintro ⟨h1, h2⟩; exact ⟨by omega, h2⟩
  · rintro ⟨h1, h2⟩
    refine ⟨?_, h2⟩
    rcases Int.lt_or_le n v with h | h
    · rw [Int.emod_eq_of_lt (by omega) h] at h2; omega
    · omega
theorem fits_one (n : Int) : (1 : Int) ≤ max n 1 ∧ n % 1 = 0 := ⟨by omega, by omega⟩
theorem best_all (k n : Int) (hk : k = 3 ∨ k = 4) : bestIn k n unitRows (0, ⟨#[]⟩, 1) = (k, mkB (unitFor k n).2, (unitFor k n).1) := by
  rcases hk with rfl | rfl
  · simp only [bestIn, unitRows, unitFor, fits (v := 1024) (by decide), fits (v := 1048576) (by decide), fits (v := 1073741824) (by decide), eq_true (fits_one n), true_and, if_true, show ((4 : Int) = 3) = False from by simp, false_and, if_false]
    by_cases h1 : 0 < n ∧ n % 1073741824 = 0
    · rw [if_pos h1, if_pos h1]; rfl
    rw [if_neg h1, if_neg h1]
    by_cases h2 : 0 < n ∧ n % 1048576 = 0
    · rw [if_pos h2, if_pos h2]; rfl
    rw [if_neg h2, if_neg h2]
    by_cases h3 : 0 < n ∧ n % 1024 = 0
    · rw [if_pos h3, if_pos h3]; rfl
    rw [if_neg h3, if_neg h3]; rfl
  · simp only [bestIn, unitRows, unitFor, fits (v := 60) (by decide), fits (v := 3600) (by decide), fits (v := 86400) (by decide), eq_true (fits_one n), true_and, and_true, if_true, show ((4 : Int) = 3) = False from by simp, show ((3 : Int) = 4) = False from by simp, false_and, if_false]
    by_cases h1 : 0 < n ∧ n % 86400 = 0
    · rw [if_pos h1, if_pos h1]; rfl
    rw [if_neg h1, if_neg h1]
    by_cases h2 : 0 < n ∧ n % 3600 = 0
    · rw [if_pos h2, if_pos h2]; rfl
    rw [if_neg h2, if_neg h2]
    by_cases h3 : 0 < n ∧ n % 60 = 0
    · rw [if_pos h3, if_pos h3]; rfl
    rw [if_neg h3, if_neg h3]; rfl

/-- A row that was found, in its block. -/
def Fnd (w : World) (F : Nat) (c : Int × ByteArray × Int) : Prop :=
  w.cell? ⟨F, 0, none⟩ = some (.int .i64 c.1) ∧ w.cell? ⟨F, 1, none⟩ = some (.string c.2.1) ∧ w.cell? ⟨F, 2, none⟩ = some (.int .i64 c.2.2) ∧
  w.frozen? ⟨F, 0, none⟩ = false ∧ w.frozen? ⟨F, 1, none⟩ = false ∧ w.frozen? ⟨F, 2, none⟩ = false

theorem gen_world {P : Program} {c : Code} {Q : Exit → Act → World → Prop} {a : Act} {w : World} (F : World → Prop) (hF : F w) (h : ∀ W, F W → Code.wp P c Q a W) : Code.wp P c Q a w := h w hF
theorem Fnd.lt {w : World} {F : Nat} {c : Int × ByteArray × Int} (h : Fnd w F c) : F < w.heap.size := lt_of_cell h.1
theorem Fnd.below {w w' : World} {F : Nat} {c : Int × ByteArray × Int} (h : Fnd w F c) (hb : Below w.heap.size w w') : Fnd w' F c := by
  have hl := h.lt
  obtain ⟨h0, h1, h2, z0, z1, z2⟩ := h
  exact ⟨by rw [hb.cell hl]; exact h0, by rw [hb.cell hl]; exact h1, by rw [hb.cell hl]; exact h2, by rw [hb.frozen hl]; exact z0, by rw [hb.frozen hl]; exact z1, by rw [hb.frozen hl]; exact z2⟩
def set3 (w : World) (F : Nat) (x y z : Value) : World := ((w.setCell ⟨F, 0, none⟩ x).setCell ⟨F, 1, none⟩ y).setCell ⟨F, 2, none⟩ z
theorem Fnd.set3 {w : World} {F : Nat} {c : Int × ByteArray × Int} (h : Fnd w F c) (d : Int × ByteArray × Int) : Fnd (set3 w F (.int .i64 d.1) (.string d.2.1) (.int .i64 d.2.2)) F d := by
  obtain ⟨h0, h1, h2, z0, z1, z2⟩ := h
  have a0 := World.cell?_setCell_same w ⟨F, 0, none⟩ (.int .i64 d.1) h0
  have a1 : (w.setCell ⟨F, 0, none⟩ (.int .i64 d.1)).cell? ⟨F, 1, none⟩ = some (.string c.2.1) := by rw [World.cell?_setCell_other _ _ _ _ (by simp), h1]
  have a2 : (w.setCell ⟨F, 0, none⟩ (.int .i64 d.1)).cell? ⟨F, 2, none⟩ = some (.int .i64 c.2.2) := by rw [World.cell?_setCell_other _ _ _ _ (by simp), h2]
  have b1 := World.cell?_setCell_same _ ⟨F, 1, none⟩ (.string d.2.1) a1
  have b2 : ((w.setCell ⟨F, 0, none⟩ (.int .i64 d.1)).setCell ⟨F, 1, none⟩ (.string d.2.1)).cell? ⟨F, 2, none⟩ = some (.int .i64 c.2.2) := by rw [World.cell?_setCell_other _ _ _ _ (by simp), a2]
  refine ⟨?_, ?_, World.cell?_setCell_same _ ⟨F, 2, none⟩ (.int .i64 d.2.2) b2, ?_, ?_, ?_⟩
  · unfold Go.Proofs.YtolibkcdfhbdiaaDoor.set3; rw [World.cell?_setCell_other _ _ _ _ (by simp), World.cell?_setCell_other _ _ _ _ (by simp), a0]
  · unfold Go.Proofs.YtolibkcdfhbdiaaDoor.set3; rw [World.cell?_setCell_other _ _ _ _ (by simp), b1]
  all_goals (unfold Go.Proofs.YtolibkcdfhbdiaaDoor.set3; rw [World.frozen?_setCell, World.frozen?_setCell, World.frozen?_setCell]; assumption)
theorem apartF {F R : Nat} (h : ¬ F = R) (i j : Nat) : (⟨F, i, none⟩ : Addr) ≠ ⟨R, j, none⟩ := fun e => h (congrArg Addr.block e)
theorem Fnd.other {w : World} {F R : Nat} {c : Int × ByteArray × Int} (h : Fnd w R c) (hn : ¬ F = R) (x y z : Value) : Fnd (Go.Proofs.YtolibkcdfhbdiaaDoor.set3 w F x y z) R c := by
  obtain ⟨h0, h1, h2, z0, z1, z2⟩ := h
  unfold Go.Proofs.YtolibkcdfhbdiaaDoor.set3
  refine ⟨?_, ?_, ?_, ?_, ?_, ?_⟩
  · rw [World.cell?_setCell_other _ _ _ _ (apartF hn _ _), World.cell?_setCell_other _ _ _ _ (apartF hn _ _), World.cell?_setCell_other _ _ _ _ (apartF hn _ _)]; exact h0
  · rw [World.cell?_setCell_other _ _ _ _ (apartF hn _ _), World.cell?_setCell_other _ _ _ _ (apartF hn _ _), World.cell?_setCell_other _ _ _ _ (apartF hn _ _)]; exact h1
  · rw [World.cell?_setCell_other _ _ _ _ (apartF hn _ _), World.cell?_setCell_other _ _ _ _ (apartF hn _ _), World.cell?_setCell_other _ _ _ _ (apartF hn _ _)]; exact h2
  all_goals (rw [World.frozen?_setCell, World.frozen?_setCell, World.frozen?_setCell]; assumption)
theorem below_set3 {B : Nat} {a w : World} (h : Below B a w) {F : Nat} (hF : B ≤ F) (x y z : Value) : Below B a (Go.Proofs.YtolibkcdfhbdiaaDoor.set3 w F x y z) :=
  ((h.setCell (p := ⟨F, 0, none⟩) hF x).setCell (p := ⟨F, 1, none⟩) hF y).setCell (p := ⟨F, 2, none⟩) hF z

set_option maxHeartbeats 1600000 in
set_option maxRecDepth 100000 in
theorem unitOf_any (k n : Int) (w : World) (hU : Units w) (hk : k = 3 ∨ k = 4) (hn : 0 ≤ n) (hn2 : n ≤ 1125899906842624) :
    Calls Tryd.prog 71 #[.int .i64 k, .int .i64 n] w fun e w' => e = .returned (.agg #[.int .i64 k, .string (mkB (unitFor k n).2), .int .i64 (unitFor k n).1]) ∧ Below w.heap.size w w' := by
  have hg := hU
  have hrow := unit_row
  obtain ⟨cs, hcs⟩ : ∃ cs, unitCells.toArray = cs := ⟨_, rfl⟩
  obtain ⟨tt, fr, hg⟩ := hg
  rw [hcs] at hg hrow
  have hsz : (Tryd.prog.info? 52).map (·.size) = some cs.size := by rw [unitSize, ← hcs]; rfl
  have hlt0 : 0 < w.heap.size := (Array.getElem?_eq_some_iff.1 hg).1
  have HG : Hid (∀ a b : Obj, ((w.alloc a).alloc b).heap[0]? = some (.cells cs tt fr)) := Lib.hid (fun a b => by
    have h1 := Below.heap_alloc (w.alloc a) b 0 (by simp <;> omega)
    have h2 := Below.heap_alloc w a 0 hlt0
    rw [h1, h2]; exact hg)
  have HZ := Lib.hid hsz
  have HROW := Lib.hid hrow
  have HALL := Lib.hid (best_all k n hk)
  clear hcs hg hsz hrow hU hk hlt0
  go_enter Tryd.func71, Tryd.ntmps71
  go_wp2_with (refine wpList_load_row rfl 52 _ rfl 0 rfl tt cs fr _ (HG.out _ _) Tryd.underlying52 rfl HZ.out ?_)
  refine gen_world (fun W => Below w.heap.size w W ∧ Fnd W (w.heap.size + 1) (0, ⟨#[]⟩, 1) ∧ Fnd W w.heap.size (0, ⟨#[]⟩, 0)) ⟨((Below.refl _ _).alloc (Nat.le_refl _) _).alloc (by simp) _, by simp [Fnd], by simp [Fnd]⟩ ?_
  rintro w1 ⟨hb1, hF1, hR1⟩
  obtain ⟨F, hFe⟩ : ∃ F, F = w.heap.size + 1 := ⟨_, rfl⟩
  obtain ⟨R, hRe⟩ : ∃ R, R = w.heap.size := ⟨_, rfl⟩
  have hFge : w.heap.size ≤ F := by omega
  have hRge : w.heap.size ≤ R := by omega
  have hFR : ¬ F = R := by omega
  rw [← hFe] at hF1 ⊢
  have HS : Hid (Below w.heap.size w w1 ∧ Fnd w1 F (0, ⟨#[]⟩, 1) ∧ Fnd w1 R (0, ⟨#[]⟩, 0)) := Lib.hid ⟨hb1, hF1, by rw [hRe]; exact hR1⟩
  rw [show Value.pointer (some ⟨w.heap.size, 0, none⟩) = Value.pointer (some ⟨R, 0, none⟩) by rw [hRe]]
  clear hb1 hF1 hR1 hFe hRe
  go_loopw [7, 10] (fun _ i wr => ∃ j : Nat, i = .int .i64 j ∧ j ≤ 8 ∧ ∃ c, Hid (bestIn k n (unitRows.drop j) c = (k, mkB (unitFor k n).2, (unitFor k n).1)) ∧ Hid (Below w.heap.size w wr ∧ Fnd wr F c ∧ Fnd wr R (0, ⟨#[]⟩, 0))) (fun _ i _ => (8 - intOf i).toNat)
  case atStart => exact ⟨0, rfl, by decide, _, HALL, HS⟩
  case round =>
    clear HALL HS
    obtain ⟨j, rfl, hj, c, HR, HS⟩ := hrel
    obtain ⟨hB, hF, hRs⟩ := HS.out
    obtain ⟨c0, c1, c2⟩ := c
    by_cases hlt : j < 8
    · obtain ⟨a, nm, v, hI, hd, hv1, hv2⟩ := HROW.out j hlt
      have HA : Hid (∀ o, Below w.heap.size w (wr.alloc o) ∧ Fnd (wr.alloc o) F (c0, c1, c2) ∧ Fnd (wr.alloc o) R (0, ⟨#[]⟩, 0)) := Lib.hid fun o =>
        ⟨hB.alloc hB.size o, hF.below ((Below.refl _ _).alloc (Nat.le_refl _) o), hRs.below ((Below.refl _ _).alloc (Nat.le_refl _) o)⟩
      have hD : Hid (∀ q, bestIn k n (unitRows.drop j) q = bestIn k n (unitRows.drop (j + 1)) (if a = k ∧ v ≤ max n 1 ∧ n % v = 0 then (a, nm, v) else q)) := Lib.hid fun q => by rw [hd, bestIn]
      have HQ : Hid (∀ o, Below w.heap.size w ((((wr.setCell ⟨F, 0, none⟩ (.int .i64 a)).setCell ⟨F, 1, none⟩ (.string nm)).setCell ⟨F, 2, none⟩ (.int .i64 v)).alloc o) ∧ Fnd ((((wr.setCell ⟨F, 0, none⟩ (.int .i64 a)).setCell ⟨F, 1, none⟩ (.string nm)).setCell ⟨F, 2, none⟩ (.int .i64 v)).alloc o) F (a, nm, v) ∧ Fnd ((((wr.setCell ⟨F, 0, none⟩ (.int .i64 a)).setCell ⟨F, 1, none⟩ (.string nm)).setCell ⟨F, 2, none⟩ (.int .i64 v)).alloc o) R (0, ⟨#[]⟩, 0)) := Lib.hid fun o => by
        have e1 := below_set3 hB hFge (.int .i64 a) (.string nm) (.int .i64 v)
        have e2 := hF.set3 (a, nm, v)
        have e3 := hRs.other hFR (.int .i64 a) (.string nm) (.int .i64 v)
        unfold set3 at e1 e2 e3
        exact ⟨e1.alloc e1.size o, e2.below ((Below.refl _ _).alloc (Nat.le_refl _) o), e3.below ((Below.refl _ _).alloc (Nat.le_refl _) o)⟩
      have hFl := hF.lt
      obtain ⟨f0, f1, f2, z0, z1, z2⟩ := hF
      simp only at f0 f1 f2
      clear hd hB hRs HS
      by_cases ha : k = a
      · subst ha
        have ha : k = k := rfl
        have d1 : (k == k) = true := beq_iff_eq.2 ha
        by_cases h1 : v ≤ max n 1
        · have d2 : decide (v ≤ max n 1) = true := decide_eq_true h1
          by_cases h2 : n % v = 0
          · have d3 : (n % v == 0) = true := beq_iff_eq.2 h2
            have HX : Hid (k = k ∧ v ≤ max n 1 ∧ n % v = 0) := Lib.hid ⟨ha, h1, h2⟩
            clear ha h1 h2
            go_wp2
            go_roundw
            case rel => exact ⟨j + 1, by go_num, by omega, (k, nm, v), Lib.hid (by rw [← HR.out, hD.out, if_pos HX.out]), Lib.hid (HQ.out _)⟩
            case measure => simp [intOf]; omega
          · have d3 : (n % v == 0) = false := beq_eq_false_iff_ne.2 h2
            have HX : Hid (¬ (k = k ∧ v ≤ max n 1 ∧ n % v = 0)) := Lib.hid fun h => h2 h.2.2
            clear ha h1 h2
            go_wp2
            go_roundw
            case rel => exact ⟨j + 1, by go_num, by omega, (c0, c1, c2), Lib.hid (by rw [← HR.out, hD.out, if_neg HX.out]), Lib.hid (HA.out _)⟩
            case measure => simp [intOf]; omega
        · have d2 : decide (v ≤ max n 1) = false := decide_eq_false h1
          have HX : Hid (¬ (k = k ∧ v ≤ max n 1 ∧ n % v = 0)) := Lib.hid fun h => h1 h.2.1
          clear ha h1
          go_wp2
          go_roundw
          case rel => exact ⟨j + 1, by go_num, by omega, (c0, c1, c2), Lib.hid (by rw [← HR.out, hD.out, if_neg HX.out]), Lib.hid (HA.out _)⟩
          case measure => simp [intOf]; omega
      · have d1 : (a == k) = false := beq_eq_false_iff_ne.2 (fun h => ha h.symm)
        have HX : Hid (¬ (a = k ∧ v ≤ max n 1 ∧ n % v = 0)) := Lib.hid fun h => ha h.1.symm
        clear ha
        go_wp2
        go_roundw
        case rel => exact ⟨j + 1, by go_num, by omega, (c0, c1, c2), Lib.hid (by rw [← HR.out, hD.out, if_neg HX.out]), Lib.hid (HA.out _)⟩
        case measure => simp [intOf]; omega
    · have hcur : Hid ((c0, c1, c2) = (k, mkB (unitFor k n).2, (unitFor k n).1)) := Lib.hid (by rw [← HR.out, List.drop_eq_nil_of_le (by show 8 ≤ j; omega)]; rfl)
      obtain ⟨f0, f1, f2, _, _, _⟩ := hF
      have HW := hRs.set3 (c0, c1, c2)
      obtain ⟨g0, g1, g2, _⟩ := HW
      unfold set3 at g0 g1 g2
      have HB := Lib.hid (below_set3 hB hRge (.int .i64 c0) (.string c1) (.int .i64 c2))
      obtain ⟨r0, r1, r2, y0, y1, y2⟩ := hRs
      simp only at f0 f1 f2 r0 r1 r2 g0 g1 g2
      clear hB
      go_wp2
      exact bodyPost_ret (v := .agg #[.int .i64 c0, .string c1, .int .i64 c2]) (by simp [results, Tryd.results71, go_sem, g0, g1, g2]) rfl ⟨by
        have h := hcur.out
        simp only [Prod.mk.injEq] at h
        rw [h.1, h.2.1, h.2.2], HB.out⟩
end Go.Proofs.YtolibkcdfhbdiaaDoor
