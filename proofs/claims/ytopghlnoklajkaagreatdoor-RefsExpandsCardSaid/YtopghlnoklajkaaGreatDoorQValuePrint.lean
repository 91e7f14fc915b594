/-
  ValueBest, ValuePrint.
-/
import Derived.Test.YtopghlnoklajkaaGreatDoorQRowOps
import Derived.Test.YtopghlnoklajkaaGreatDoorQValueRight
namespace Go.Proofs.YtopghlnoklajkaaGreatDoor
open Go.ChangeShapes Go.WideShapes Go.ChangeAt Go.RowKit

def bestIn (k n : Int) : List (Int × ByteArray × Int) → Int × ByteArray × Int → Int × ByteArray × Int
 | [], cur => cur
 | x :: r, cur => bestIn k n r (if x.1 = k ∧ x.2.2 ≤ max n 1 ∧ n % x.2.2 = 0 then x else cur)
theorem fits {v n : Int} (hv : 2 ≤ v) : (v ≤ max n 1 ∧ n % v = 0) ↔ (0 < n ∧ n % v = 0) := by
 constructor
 ·rintro ⟨h1, h2⟩; exact ⟨by omega, h2⟩
 ·rintro ⟨h1, h2⟩
  refine ⟨?_, h2⟩
  rcases Int.lt_or_le n v with h | h
  ·rw [Int.emod_eq_of_lt (by omega) h] at h2; omega
  ·omega
theorem fits_one (n : Int) : (1 : Int) ≤ max n 1 ∧ n % 1 = 0 := ⟨by omega, by omega⟩
theorem best_all (k n : Int) (hk : k = 3 ∨ k = 4) : bestIn k n unitRows (0, ⟨#[]⟩, 1) = (k, mkB (unitFor k n).2, (unitFor k n).1) := by
 rcases hk with rfl | rfl
 ·simp only [bestIn, unitRows, unitFor, fits (v := 1024) (by decide), fits (v := 1048576) (by decide), fits (v := 1073741824) (by decide), eq_true (fits_one n), true_and, if_true, show ((4 : Int) = 3) = False from by simp, false_and, if_false]
  by_cases h1 : 0 < n ∧ n % 1073741824 = 0
  ·rw [if_pos h1, if_pos h1]; rfl
  rw [if_neg h1, if_neg h1]
  by_cases h2 : 0 < n ∧ n % 1048576 = 0
  ·rw [if_pos h2, if_pos h2]; rfl
  rw [if_neg h2, if_neg h2]
  by_cases h3 : 0 < n ∧ n % 1024 = 0
  ·rw [if_pos h3, if_pos h3]; rfl
  rw [if_neg h3, if_neg h3]; rfl
 ·simp only [bestIn, unitRows, unitFor, fits (v := 60) (by decide), fits (v := 3600) (by decide), fits (v := 86400) (by decide), eq_true (fits_one n), true_and, and_true, if_true, show ((4 : Int) = 3) = False from by simp, show ((3 : Int) = 4) = False from by simp, false_and, if_false]
  by_cases h1 : 0 < n ∧ n % 86400 = 0
  ·rw [if_pos h1, if_pos h1]; rfl
  rw [if_neg h1, if_neg h1]
  by_cases h2 : 0 < n ∧ n % 3600 = 0
  ·rw [if_pos h2, if_pos h2]; rfl
  rw [if_neg h2, if_neg h2]
  by_cases h3 : 0 < n ∧ n % 60 = 0
  ·rw [if_pos h3, if_pos h3]; rfl
  rw [if_neg h3, if_neg h3]; rfl

def Fnd (w : World) (F : Nat) (c : Int × ByteArray × Int) : Prop :=
 w.cell? ⟨F, 0, none⟩ = some (.int .i64 c.1) ∧ w.cell? ⟨F, 1, none⟩ = some (.string c.2.1) ∧ w.cell? ⟨F, 2, none⟩ = some (.int .i64 c.2.2) ∧
 w.frozen? ⟨F, 0, none⟩ = false ∧ w.frozen? ⟨F, 1, none⟩ = false ∧ w.frozen? ⟨F, 2, none⟩ = false

theorem gen_world {P : Program} {c : Code} {Q : Exit → Act → World → Prop} {a : Act} {w : World} (F : World → Prop) (hF : F w) (h : ∀ W, F W → Code.wp P c Q a W) : Code.wp P c Q a w := h w hF
theorem Fnd.lt {w : World} {F : Nat} {c : Int × ByteArray × Int} (h : Fnd w F c) : F < w.heap.size := lt_of_cell h.1
theorem Fnd.below {w w' : World} {F : Nat} {c : Int × ByteArray × Int} (h : Fnd w F c) (hb : Below w.heap.size w w') : Fnd w' F c := by
 have hl := h.lt
 obtain ⟨h0, h1, h2, z0, z1, z2⟩ := h
 exact ⟨by rw [hb.cell hl]; exact h0, by rw [hb.cell hl]; exact h1, by rw [hb.cell hl]; exact h2, by rw [hb.frozen hl]; exact z0, by rw [hb.frozen hl]; exact z1, by rw [hb.frozen hl]; exact z2⟩
def set3 (w : World) (F : Nat) (x y z : Value) : World := ((w.setCell ⟨F, 0, none⟩ x).setCell ⟨F, 1, none⟩ y).setCell ⟨F, 2, none⟩ z
theorem Fnd.set3 {w : World} {F : Nat} {c : Int × ByteArray × Int} (h : Fnd w F c) (d : Int × ByteArray × Int) : Fnd (set3 w F (.int .i64 d.1) (.string d.2.1) (.int .i64 d.2.2)) F d := by
 obtain ⟨h0, h1, h2, z0, z1, z2⟩ := h
 have a0 := World.cell?_setCell_same w ⟨F, 0, none⟩ (.int .i64 d.1) h0
 have a1 : (w.setCell ⟨F, 0, none⟩ (.int .i64 d.1)).cell? ⟨F, 1, none⟩ = some (.string c.2.1) := by rw [World.cell?_setCell_other _ _ _ _ (by simp), h1]
 have a2 : (w.setCell ⟨F, 0, none⟩ (.int .i64 d.1)).cell? ⟨F, 2, none⟩ = some (.int .i64 c.2.2) := by rw [World.cell?_setCell_other _ _ _ _ (by simp), h2]
 have b1 := World.cell?_setCell_same _ ⟨F, 1, none⟩ (.string d.2.1) a1
 have b2 : ((w.setCell ⟨F, 0, none⟩ (.int .i64 d.1)).setCell ⟨F, 1, none⟩ (.string d.2.1)).cell? ⟨F, 2, none⟩ = some (.int .i64 c.2.2) := by rw [World.cell?_setCell_other _ _ _ _ (by simp), a2]
 refine ⟨?_, ?_, World.cell?_setCell_same _ ⟨F, 2, none⟩ (.int .i64 d.2.2) b2, ?_, ?_, ?_⟩
 ·unfold Go.Proofs.YtopghlnoklajkaaGreatDoor.set3; rw [World.cell?_setCell_other _ _ _ _ (by simp), World.cell?_setCell_other _ _ _ _ (by simp), a0]
 ·unfold Go.Proofs.YtopghlnoklajkaaGreatDoor.set3; rw [World.cell?_setCell_other _ _ _ _ (by simp), b1]
 all_goals (unfold Go.Proofs.YtopghlnoklajkaaGreatDoor.set3; rw [World.frozen?_setCell, World.frozen?_setCell, World.frozen?_setCell]; assumption)
theorem apartF {F R : Nat} (h : ¬ F = R) (i j : Nat) : (⟨F, i, none⟩ : Addr) ≠ ⟨R, j, none⟩ := fun e => h (congrArg Addr.block e)
theorem Fnd.other {w : World} {F R : Nat} {c : Int × ByteArray × Int} (h : Fnd w R c) (hn : ¬ F = R) (x y z : Value) : Fnd (Go.Proofs.YtopghlnoklajkaaGreatDoor.set3 w F x y z) R c := by
 obtain ⟨h0, h1, h2, z0, z1, z2⟩ := h
 unfold Go.Proofs.YtopghlnoklajkaaGreatDoor.set3
 refine ⟨?_, ?_, ?_, ?_, ?_, ?_⟩
 ·rw [World.cell?_setCell_other _ _ _ _ (apartF hn _ _), World.cell?_setCell_other _ _ _ _ (apartF hn _ _), World.cell?_setCell_other _ _ _ _ (apartF hn _ _)]; exact h0
 ·rw [World.cell?_setCell_other _ _ _ _ (apartF hn _ _), World.cell?_setCell_other _ _ _ _ (apartF hn _ _), World.cell?_setCell_other _ _ _ _ (apartF hn _ _)]; exact h1
 ·rw [World.cell?_setCell_other _ _ _ _ (apartF hn _ _), World.cell?_setCell_other _ _ _ _ (apartF hn _ _), World.cell?_setCell_other _ _ _ _ (apartF hn _ _)]; exact h2
 all_goals (rw [World.frozen?_setCell, World.frozen?_setCell, World.frozen?_setCell]; assumption)
theorem below_set3 {B : Nat} {a w : World} (h : Below B a w) {F : Nat} (hF : B ≤ F) (x y z : Value) : Below B a (Go.Proofs.YtopghlnoklajkaaGreatDoor.set3 w F x y z) :=
 ((h.setCell (p := ⟨F, 0, none⟩) hF x).setCell (p := ⟨F, 1, none⟩) hF y).setCell (p := ⟨F, 2, none⟩) hF z

set_option maxHeartbeats 1600000 in
set_option maxRecDepth 100000 in
theorem unitOf_any (k n : Int) (w : World) (hU : Units w) (hk : k = 3 ∨ k = 4) (hn : 0 ≤ n) (hn2 : n ≤ 1125899906842624) :
  Calls Tryz.prog 117 #[.int .i64 k, .int .i64 n] w fun e w' => e = .returned (.agg #[.int .i64 k, .string (mkB (unitFor k n).2), .int .i64 (unitFor k n).1]) ∧ Below w.heap.size w w' := by
 have hg := hU
 have hrow := unit_row
 obtain ⟨cs, hcs⟩ : ∃ cs, unitCells.toArray = cs := ⟨_, rfl⟩
 obtain ⟨tt, fr, hg⟩ := hg
 rw [hcs] at hg hrow
 have hsz : (Tryz.prog.info? 194).map (·.size) = some cs.size := by rw [unitSize, ← hcs]; rfl
 have hlt0 : 4 < w.heap.size := (Array.getElem?_eq_some_iff.1 hg).1
 have HG : Hid (∀ a b : Obj, ((w.alloc a).alloc b).heap[4]? = some (.cells cs tt fr)) := Lib.hid (fun a b => by
  have h1 := Below.heap_alloc (w.alloc a) b 4 (by simp <;> omega)
  have h2 := Below.heap_alloc w a 4 hlt0
  rw [h1, h2]; exact hg)
 have HZ := Lib.hid hsz
 have HROW := Lib.hid hrow
 have HALL := Lib.hid (best_all k n hk)
 clear hcs hg hsz hrow hU hk hlt0
 go_enter Tryz.func117, Tryz.ntmps117
 go_wp2_with (refine wpList_load_row rfl 194 _ rfl 4 rfl tt cs fr _ (HG.out _ _) Tryz.underlying194 rfl HZ.out ?_)
 refine gen_world (fun W => Below w.heap.size w W ∧ Fnd W (w.heap.size + 1) (0, ⟨#[]⟩, 1) ∧ Fnd W w.heap.size (0, ⟨#[]⟩, 0)) ⟨((Below.refl _ _).alloc (Nat.le_refl _) _).alloc (by simp) _, by simp [Fnd], by simp [Fnd]⟩ ?_
 rintro w1 ⟨hb1, hF1, hR1⟩
 obtain ⟨F, hFe⟩ : ∃ F, F = w.heap.size + 1 := ⟨_, rfl⟩
 obtain ⟨R, hRe⟩ : ∃ R, R = w.heap.size := ⟨_, rfl⟩
 have hFge : w.heap.size ≤ F := by omega
 have hRge : w.heap.size ≤ R := by omega
 have hFR : ¬ F = R := by omega
 rw [← hFe] at hF1 ⊢
 have HS : Hid (Below w.heap.size w w1 ∧ Fnd w1 F (0, ⟨#[]⟩, 1) ∧ Fnd w1 R (0, ⟨#[]⟩, 0)) := Lib.hid ⟨hb1, hF1, by rw [hRe]; exact hR1⟩
 rw [show Value.pointer (some ⟨w.heap.size, 0, none⟩) = Value.pointer (some ⟨R, 0, none⟩) by rw [hRe]]
 clear hb1 hF1 hR1 hFe hRe
 go_loopw [7, 10] (fun _ i wr => ∃ j : Nat, i = .int .i64 j ∧ j ≤ 8 ∧ ∃ c, Hid (bestIn k n (unitRows.drop j) c = (k, mkB (unitFor k n).2, (unitFor k n).1)) ∧ Hid (Below w.heap.size w wr ∧ Fnd wr F c ∧ Fnd wr R (0, ⟨#[]⟩, 0))) (fun _ i _ => (8 - intOf i).toNat)
 case atStart => exact ⟨0, rfl, by decide, _, HALL, HS⟩
 case round =>
  clear HALL HS
  obtain ⟨j, rfl, hj, c, HR, HS⟩ := hrel
  obtain ⟨hB, hF, hRs⟩ := HS.out
  obtain ⟨c0, c1, c2⟩ := c
  by_cases hlt : j < 8
  ·obtain ⟨a, nm, v, hI, hd, hv1, hv2⟩ := HROW.out j hlt
   have HA : Hid (∀ o, Below w.heap.size w (wr.alloc o) ∧ Fnd (wr.alloc o) F (c0, c1, c2) ∧ Fnd (wr.alloc o) R (0, ⟨#[]⟩, 0)) := Lib.hid fun o =>
    ⟨hB.alloc hB.size o, hF.below ((Below.refl _ _).alloc (Nat.le_refl _) o), hRs.below ((Below.refl _ _).alloc (Nat.le_refl _) o)⟩
   have hD : Hid (∀ q, bestIn k n (unitRows.drop j) q = bestIn k n (unitRows.drop (j + 1)) (if a = k ∧ v ≤ max n 1 ∧ n % v = 0 then (a, nm, v) else q)) := Lib.hid fun q => by rw [hd, bestIn]
   have HQ : Hid (∀ o, Below w.heap.size w ((((wr.setCell ⟨F, 0, none⟩ (.int .i64 a)).setCell ⟨F, 1, none⟩ (.string nm)).setCell ⟨F, 2, none⟩ (.int .i64 v)).alloc o) ∧ Fnd ((((wr.setCell ⟨F, 0, none⟩ (.int .i64 a)).setCell ⟨F, 1, none⟩ (.string nm)).setCell ⟨F, 2, none⟩ (.int .i64 v)).alloc o) F (a, nm, v) ∧ Fnd ((((wr.setCell ⟨F, 0, none⟩ (.int .i64 a)).setCell ⟨F, 1, none⟩ (.string nm)).setCell ⟨F, 2, none⟩ (.int .i64 v)).alloc o) R (0, ⟨#[]⟩, 0)) := Lib.hid fun o => by
    have e1 := below_set3 hB hFge (.int .i64 a) (.string nm) (.int .i64 v)
    have e2 := hF.set3 (a, nm, v)
    have e3 := hRs.other hFR (.int .i64 a) (.string nm) (.int .i64 v)
    unfold set3 at e1 e2 e3
    exact ⟨e1.alloc e1.size o, e2.below ((Below.refl _ _).alloc (Nat.le_refl _) o), e3.below ((Below.refl _ _).alloc (Nat.le_refl _) o)⟩
   have hFl := hF.lt
   obtain ⟨f0, f1, f2, z0, z1, z2⟩ := hF
   simp only at f0 f1 f2
   clear hd hB hRs HS
   by_cases ha : k = a
   ·subst ha
    have ha : k = k := rfl
    have d1 : (k == k) = true := beq_iff_eq.2 ha
    by_cases h1 : v ≤ max n 1
    ·have d2 : decide (v ≤ max n 1) = true := decide_eq_true h1
     by_cases h2 : n % v = 0
     ·have d3 : (n % v == 0) = true := beq_iff_eq.2 h2
      have HX : Hid (k = k ∧ v ≤ max n 1 ∧ n % v = 0) := Lib.hid ⟨ha, h1, h2⟩
      clear ha h1 h2
      go_wp2
      go_roundw
      case rel => exact ⟨j + 1, by go_num, by omega, (k, nm, v), Lib.hid (by rw [← HR.out, hD.out, if_pos HX.out]), Lib.hid (HQ.out _)⟩
      case measure => simp [intOf]; omega
     ·have d3 : (n % v == 0) = false := beq_eq_false_iff_ne.2 h2
      have HX : Hid (¬ (k = k ∧ v ≤ max n 1 ∧ n % v = 0)) := Lib.hid fun h => h2 h.2.2
      clear ha h1 h2
      go_wp2
      go_roundw
      case rel => exact ⟨j + 1, by go_num, by omega, (c0, c1, c2), Lib.hid (by rw [← HR.out, hD.out, if_neg HX.out]), Lib.hid (HA.out _)⟩
      case measure => simp [intOf]; omega
    ·have d2 : decide (v ≤ max n 1) = false := decide_eq_false h1
     have HX : Hid (¬ (k = k ∧ v ≤ max n 1 ∧ n % v = 0)) := Lib.hid fun h => h1 h.2.1
     clear ha h1
     go_wp2
     go_roundw
     case rel => exact ⟨j + 1, by go_num, by omega, (c0, c1, c2), Lib.hid (by rw [← HR.out, hD.out, if_neg HX.out]), Lib.hid (HA.out _)⟩
     case measure => simp [intOf]; omega
   ·have d1 : (a == k) = false := beq_eq_false_iff_ne.2 (fun h => ha h.symm)
    have HX : Hid (¬ (a = k ∧ v ≤ max n 1 ∧ n % v = 0)) := Lib.hid fun h => ha h.1.symm
    clear ha
    go_wp2
    go_roundw
    case rel => exact ⟨j + 1, by go_num, by omega, (c0, c1, c2), Lib.hid (by rw [← HR.out, hD.out, if_neg HX.out]), Lib.hid (HA.out _)⟩
    case measure => simp [intOf]; omega
  ·have hcur : Hid ((c0, c1, c2) = (k, mkB (unitFor k n).2, (unitFor k n).1)) := Lib.hid (by rw [← HR.out, List.drop_eq_nil_of_le (by show 8 ≤ j; omega)]; rfl)
   obtain ⟨f0, f1, f2, _, _, _⟩ := hF
   have HW := hRs.set3 (c0, c1, c2)
   obtain ⟨g0, g1, g2, _⟩ := HW
   unfold set3 at g0 g1 g2
   have HB := Lib.hid (below_set3 hB hRge (.int .i64 c0) (.string c1) (.int .i64 c2))
   obtain ⟨r0, r1, r2, y0, y1, y2⟩ := hRs
   simp only at f0 f1 f2 r0 r1 r2 g0 g1 g2
   clear hB
   go_wp2
   exact bodyPost_ret (v := .agg #[.int .i64 c0, .string c1, .int .i64 c2]) (by simp [results, Tryz.results117, go_sem, g0, g1, g2]) rfl ⟨by
    have h := hcur.out
    simp only [Prod.mk.injEq] at h
    rw [h.1, h.2.1, h.2.2], HB.out⟩
end Go.Proofs.YtopghlnoklajkaaGreatDoor

namespace Go.Proofs.YtopghlnoklajkaaGreatDoor
open Go.ChangeShapes Go.WideShapes Go.ChangeAt Go.RowKit

theorem Pow.below {w w' : World} (h : Pow w) (hg : 6 < w.heap.size) (hb : Below w.heap.size w w') : Pow w' :=
  var?_below (g := 6) hb (by kernel_rfl) hg h
structure Std (w : World) : Prop where
  tab : Tab w
  units : Units w
  pow : Pow w
  powIn : 6 < w.heap.size
  maxI : MaxI w
theorem Std.below {w w' : World} (h : Std w) (hb : Below w.heap.size w w') : Std w' := ⟨h.tab.below hb, h.units.below hb, h.pow.below h.powIn hb, Nat.lt_of_lt_of_le h.powIn hb.size, h.maxI.below hb⟩
theorem mkB_append (a b : List UInt8) : mkB a ++ mkB b = mkB (a ++ b) := by
  rw [← mkB_self (mkB a ++ mkB b)]
  congr 1
theorem unitFor_pos (k n : Int) : 1 ≤ (unitFor k n).1 ∧ (unitFor k n).1 ≤ 1073741824 := by
  unfold unitFor; repeat' split
  all_goals simp

theorem nDigits_bd : ∀ (k u : Nat), u < 10 ^ (k + 1) → Lib.nDigits u ≤ k + 1
  | 0, u, h => by rw [Lib.nDigits_small (by simpa using h)]; omega
  | k + 1, u, h => by
    by_cases hs : u < 10
    · rw [Lib.nDigits_small hs]; omega
    · rw [Lib.nDigits_big hs]
      have := nDigits_bd k (u / 10) (by rw [Nat.pow_succ] at h; omega)
      omega
theorem itoa_len (n : Int) (h0 : -9223372036854775808 ≤ n) (h1 : n ≤ 9223372036854775807) : (Lib.itoa n).length ≤ 20 := by
  unfold Lib.itoa
  split
  · rw [List.length_cons, Lib.decDigits_length]
    have := nDigits_bd 18 n.natAbs (by have : (10 : Nat) ^ (18 + 1) = 10000000000000000000 := by decide
                                       omega)
    omega
  · rw [Lib.decDigits_length]
    have := nDigits_bd 18 n.toNat (by have : (10 : Nat) ^ (18 + 1) = 10000000000000000000 := by decide
                                      omega)
    omega
theorem unit_len (k n : Int) : (unitFor k n).2.length ≤ 1 := by
  unfold unitFor; repeat' split
  all_goals simp

set_option maxHeartbeats 3200000 in
set_option maxRecDepth 100000 in
theorem vprinted_any (w : World) (v : Val) (x : Option Addr) (c : Nat) (h : ArgOk w v x c) (hS : Std w) (hr : rightV v = true) :
    Calls Tryz.prog 83 #[argV v x c] w fun e w' => e = .returned (.string (mkB (printV v))) ∧ Below w.heap.size w w' := by
  obtain ⟨k, n, t, xs⟩ := v
  have hb0 : Hid (∀ o, Below w.heap.size w (w.alloc o)) := Lib.hid fun o => (Below.refl _ _).alloc (Nat.le_refl _) o
  have HS := Lib.hid hS
  have HA := Lib.hid h
  have HR := Lib.hid hr
  clear h hS hr
  obtain ⟨L, hLe⟩ : ∃ L, xs.length = L := ⟨_, rfl⟩
  have HL := Lib.hid hLe
  unfold argV
  simp only
  rw [hLe]
  clear hLe
  by_cases h1 : k = 1
  · subst h1
    obtain ⟨B, hB⟩ : ∃ B, (n == 1) = B := ⟨_, rfl⟩
    obtain ⟨J, hJ⟩ : ∃ J, mkB (if B then [116, 114, 117, 101] else [102, 97, 108, 115, 101]) = J := ⟨_, rfl⟩
    have HJ := Lib.hid hJ
    have HV : Hid (mkB (printV ⟨1, n, t, xs⟩) = J) := Lib.hid (by
      rw [← hJ, ← hB]; congr 1; unfold printV; rw [if_pos rfl]; simp only; by_cases hn : n = 1
      · rw [if_pos hn, if_pos (beq_iff_eq.2 hn)]
      · rw [if_neg hn, if_neg (fun h => hn (beq_iff_eq.1 h))])
    clear hJ
    go_enter Tryz.func83, Tryz.ntmps83
    go_wp2_with fail
    refine (fbool_any _ _).mono ?_
    rintro e w' ⟨rfl, rfl⟩
    rw [HJ.out]
    go_wp2
    go_ret
    exact ⟨ret_val (by rw [HV.out]; rfl), hb0.out _⟩
  by_cases h2 : k = 2
  · subst h2
    have hrange : Hid (-9223372036854775808 ≤ n ∧ n ≤ 9223372036854775807) := Lib.hid (by
      have h := HR.out
      unfold rightV at h
      rw [if_neg (by simp), if_pos rfl] at h
      simp only [Bool.and_eq_true, decide_eq_true_eq] at h
      omega)
    obtain ⟨J, hJ⟩ : ∃ J, mkB (Lib.itoa n) = J := ⟨_, rfl⟩
    have HJ := Lib.hid hJ
    have HV : Hid (mkB (printV ⟨2, n, t, xs⟩) = J) := Lib.hid (by rw [← hJ]; rfl)
    clear hJ
    go_enter Tryz.func83, Tryz.ntmps83
    go_wp2_with fail
    refine (itoa_any n hrange.out.1 hrange.out.2 _ (HS.out.below (hb0.out _)).pow).mono ?_
    rintro e w' ⟨rfl, hb⟩
    rw [HJ.out]
    have HB := Lib.hid ((hb0.out (.cells #[.int .i64 2, .int .i64 n, .string t, .slice x L c] 48)).trans (hb.mono (hb0.out _).size))
    clear hb
    go_wp2
    go_ret
    exact ⟨ret_val (by rw [HV.out]; rfl), HB.out⟩
  by_cases h3 : k = 3
  · subst h3
    have hrange : 0 ≤ n ∧ n ≤ 1125899906842624 := by
      have h := HR.out
      unfold rightV at h
      rw [if_neg (by simp), if_neg (by simp), if_pos (by simp)] at h
      simp only [Bool.and_eq_true, decide_eq_true_eq] at h
      exact h.1.1
    obtain ⟨r0, r1⟩ := hrange
    have hup := unitFor_pos 3 n
    obtain ⟨u, hu⟩ : ∃ u, (unitFor 3 n).1 = u := ⟨_, rfl⟩
    obtain ⟨nm, hnm⟩ : ∃ nm, mkB (unitFor 3 n).2 = nm := ⟨_, rfl⟩
    rw [hu] at hup
    obtain ⟨u0, u1⟩ := hup
    obtain ⟨q, hq⟩ : ∃ q, n / u = q := ⟨_, rfl⟩
    have hq0 : 0 ≤ q := by rw [← hq]; exact Int.ediv_nonneg r0 (by omega)
    have hq1 : q ≤ 9223372036854775807 := by rw [← hq]; have := Int.ediv_le_self u r0; omega
    have hqm : -9223372036854775808 ≤ q := by omega
    have hune : ¬ u = 0 := by omega
    have hwq : IntKind.i64.wrap q = q := IntWalk.i64_in _ (by omega)
    have ht1 : n.tdiv u = q := by rw [Int.tdiv_eq_ediv_of_nonneg r0, hq]
    have HV : Hid (mkB (printV ⟨3, n, t, xs⟩) = mkB (Lib.itoa q) ++ nm) := Lib.hid (by
      rw [← hnm, mkB_append, ← hq, ← hu]; rfl)
    have HU : Hid ((unitFor 3 n).1 = u ∧ mkB (unitFor 3 n).2 = nm) := Lib.hid ⟨hu, hnm⟩
    have HQ0 := Lib.hid hq
    have hs1 : (mkB (Lib.itoa q)).size ≤ 20 := by rw [mkB_size]; exact itoa_len q hqm hq1
    have hs2 : nm.size ≤ 1 := by rw [← hnm, mkB_size]; exact unit_len _ _
    have hcat : ¬ (9223372036854775807 < (mkB (Lib.itoa q)).size + nm.size) := by omega
    clear hu hnm hs1 hs2
    go_enter Tryz.func83, Tryz.ntmps83
    go_wp2_with fail
    refine (unitOf_any 3 n _ (HS.out.below (hb0.out _)).units (by simp) r0 (by omega)).mono ?_
    rintro e w1 ⟨rfl, hb⟩
    rw [HU.out.1, HU.out.2]
    have HB1 : Hid (Below w.heap.size w w1) := Lib.hid ((hb0.out (.cells #[.int .i64 3, .int .i64 n, .string t, .slice x L c] 48)).trans (hb.mono (hb0.out _).size))
    have hbx : Box4 w1 w.heap.size (.int .i64 3) (.int .i64 n) (.string t) (.slice x L c) := (box4_new w _ _ _ _ _).below hb
    have hlt := hbx.lt
    have HBX := Lib.hid hbx
    obtain ⟨c0, c1, c2, c3, _, _, _, _⟩ := hbx
    have hb2 : Below w1.heap.size w1 (w1.alloc (.cells #[.int .i64 3, .string nm, .int .i64 u] 177)).drew := ((Below.refl _ _).alloc (Nat.le_refl _) _).drew
    have HB2 : Hid (Below w.heap.size w (w1.alloc (.cells #[.int .i64 3, .string nm, .int .i64 u] 177)).drew ∧ Std (w1.alloc (.cells #[.int .i64 3, .string nm, .int .i64 u] 177)).drew) := Lib.hid ⟨HB1.out.trans (hb2.mono HB1.out.size), (HS.out.below HB1.out).below hb2⟩
    have m0 : (w1.alloc (.cells #[.int .i64 3, .string nm, .int .i64 u] 177)).cell? ⟨w1.heap.size, 0, none⟩ = some (.int .i64 3) := by simp
    have m1 : (w1.alloc (.cells #[.int .i64 3, .string nm, .int .i64 u] 177)).cell? ⟨w1.heap.size, 1, none⟩ = some (.string nm) := by simp
    have m2 : (w1.alloc (.cells #[.int .i64 3, .string nm, .int .i64 u] 177)).cell? ⟨w1.heap.size, 2, none⟩ = some (.int .i64 u) := by simp
    have n1 : (w1.alloc (.cells #[.int .i64 3, .string nm, .int .i64 u] 177)).cell? ⟨w.heap.size, 1, none⟩ = some (.int .i64 n) := (HBX.out.below ((Below.refl _ _).alloc (Nat.le_refl _) _)).c1
    have HM1 := Lib.hid m1
    have HQ := Lib.hid hq1
    clear hb hb2
    go_wp2
    first
      | (go_region_law ((go_simp; (with_reducible refine (itoa_any _ (by first | assumption | omega) (by first | assumption | omega) _ HB2.out.2.pow).mono ?_); rintro e w2 ⟨rfl, hb3⟩; have z1 : w2.cell? ⟨w1.heap.size, 1, none⟩ = some (.string nm) := (hb3.cell (p := ⟨w1.heap.size, 1, none⟩) (by simp)).trans HM1.out; dsimp only)))
      | fail
    all_goals
      have HB := Lib.hid (HB2.out.1.trans (hb3.mono HB2.out.1.size))
      clear hb3
      go_wp2
      go_ret
      exact ⟨ret_val (by rw [HV.out]; rfl), HB.out⟩
  by_cases h4 : k = 4
  · subst h4
    have hrange : 0 ≤ n ∧ n ≤ 1099511627776 := by
      have h := HR.out
      unfold rightV at h
      rw [if_neg (by simp), if_neg (by simp), if_pos (by simp)] at h
      simp only [Bool.and_eq_true, decide_eq_true_eq] at h
      exact h.1.1
    obtain ⟨r0, r1⟩ := hrange
    have hup := unitFor_pos 4 n
    obtain ⟨u, hu⟩ : ∃ u, (unitFor 4 n).1 = u := ⟨_, rfl⟩
    obtain ⟨nm, hnm⟩ : ∃ nm, mkB (unitFor 4 n).2 = nm := ⟨_, rfl⟩
    rw [hu] at hup
    obtain ⟨u0, u1⟩ := hup
    obtain ⟨q, hq⟩ : ∃ q, n / u = q := ⟨_, rfl⟩
    have hq0 : 0 ≤ q := by rw [← hq]; exact Int.ediv_nonneg r0 (by omega)
    have hq1 : q ≤ 9223372036854775807 := by rw [← hq]; have := Int.ediv_le_self u r0; omega
    have hqm : -9223372036854775808 ≤ q := by omega
    have hune : ¬ u = 0 := by omega
    have hwq : IntKind.i64.wrap q = q := IntWalk.i64_in _ (by omega)
    have ht1 : n.tdiv u = q := by rw [Int.tdiv_eq_ediv_of_nonneg r0, hq]
    have HV : Hid (mkB (printV ⟨4, n, t, xs⟩) = mkB (Lib.itoa q) ++ nm) := Lib.hid (by
      rw [← hnm, mkB_append, ← hq, ← hu]; rfl)
    have HU : Hid ((unitFor 4 n).1 = u ∧ mkB (unitFor 4 n).2 = nm) := Lib.hid ⟨hu, hnm⟩
    have HQ0 := Lib.hid hq
    have hs1 : (mkB (Lib.itoa q)).size ≤ 20 := by rw [mkB_size]; exact itoa_len q hqm hq1
    have hs2 : nm.size ≤ 1 := by rw [← hnm, mkB_size]; exact unit_len _ _
    have hcat : ¬ (9223372036854775807 < (mkB (Lib.itoa q)).size + nm.size) := by omega
    clear hu hnm hs1 hs2
    go_enter Tryz.func83, Tryz.ntmps83
    go_wp2_with fail
    refine (unitOf_any 4 n _ (HS.out.below (hb0.out _)).units (by simp) r0 (by omega)).mono ?_
    rintro e w1 ⟨rfl, hb⟩
    rw [HU.out.1, HU.out.2]
    have HB1 : Hid (Below w.heap.size w w1) := Lib.hid ((hb0.out (.cells #[.int .i64 4, .int .i64 n, .string t, .slice x L c] 48)).trans (hb.mono (hb0.out _).size))
    have hbx : Box4 w1 w.heap.size (.int .i64 4) (.int .i64 n) (.string t) (.slice x L c) := (box4_new w _ _ _ _ _).below hb
    have hlt := hbx.lt
    have HBX := Lib.hid hbx
    obtain ⟨c0, c1, c2, c3, _, _, _, _⟩ := hbx
    have hb2 : Below w1.heap.size w1 (w1.alloc (.cells #[.int .i64 4, .string nm, .int .i64 u] 177)).drew := ((Below.refl _ _).alloc (Nat.le_refl _) _).drew
    have HB2 : Hid (Below w.heap.size w (w1.alloc (.cells #[.int .i64 4, .string nm, .int .i64 u] 177)).drew ∧ Std (w1.alloc (.cells #[.int .i64 4, .string nm, .int .i64 u] 177)).drew) := Lib.hid ⟨HB1.out.trans (hb2.mono HB1.out.size), (HS.out.below HB1.out).below hb2⟩
    have m0 : (w1.alloc (.cells #[.int .i64 4, .string nm, .int .i64 u] 177)).cell? ⟨w1.heap.size, 0, none⟩ = some (.int .i64 4) := by simp
    have m1 : (w1.alloc (.cells #[.int .i64 4, .string nm, .int .i64 u] 177)).cell? ⟨w1.heap.size, 1, none⟩ = some (.string nm) := by simp
    have m2 : (w1.alloc (.cells #[.int .i64 4, .string nm, .int .i64 u] 177)).cell? ⟨w1.heap.size, 2, none⟩ = some (.int .i64 u) := by simp
    have n1 : (w1.alloc (.cells #[.int .i64 4, .string nm, .int .i64 u] 177)).cell? ⟨w.heap.size, 1, none⟩ = some (.int .i64 n) := (HBX.out.below ((Below.refl _ _).alloc (Nat.le_refl _) _)).c1
    have HM1 := Lib.hid m1
    have HQ := Lib.hid hq1
    clear hb hb2
    go_wp2
    first
      | (go_region_law ((go_simp; (with_reducible refine (itoa_any _ (by first | assumption | omega) (by first | assumption | omega) _ HB2.out.2.pow).mono ?_); rintro e w2 ⟨rfl, hb3⟩; have z1 : w2.cell? ⟨w1.heap.size, 1, none⟩ = some (.string nm) := (hb3.cell (p := ⟨w1.heap.size, 1, none⟩) (by simp)).trans HM1.out; dsimp only)))
      | fail
    all_goals
      have HB := Lib.hid (HB2.out.1.trans (hb3.mono HB2.out.1.size))
      clear hb3
      go_wp2
      go_ret
      exact ⟨ret_val (by rw [HV.out]; rfl), HB.out⟩
  by_cases h5 : k = 5
  · subst h5
    have HV : Hid (mkB (printV ⟨5, n, t, xs⟩) = t) := Lib.hid (by show mkB t.data.toList = t; exact mkB_self t)
    go_enter Tryz.func83, Tryz.ntmps83
    go_wp2
    go_ret
    exact ⟨ret_val (by rw [HV.out]; rfl), hb0.out _⟩
  have h6 : k = 6 := by
    refine Classical.byContradiction fun h6 => ?_
    have h := HR.out
    unfold rightV at h
    rw [if_neg h1, if_neg h2, if_neg (by simp only; omega), if_neg h5, if_neg h6] at h
    cases h
  subst h6
  have hwr : wordsRight xs = true := by
    have h := HR.out
    unfold rightV at h
    rw [if_neg (by simp), if_neg (by simp), if_neg (by simp), if_neg (by simp), if_pos rfl] at h
    simp only [Bool.and_eq_true] at h
    exact h.2
  have hw2 : xs.length ≤ 16 ∧ allWords (wl xs) = true ∧ (joinW xs).length ≤ 200 := by
    unfold wordsRight at hwr
    simp only [Bool.and_eq_true, decide_eq_true_eq] at hwr
    exact ⟨hwr.1.1, hwr.1.2, hwr.2⟩
  have HCALL : Hid (∀ o, Calls Tryz.prog 118 #[.slice x L c, .string ⟨#[44]⟩] (w.alloc o) fun e w' => e = .returned (.string (mkB (printV ⟨6, n, t, xs⟩))) ∧ Below (w.alloc o).heap.size (w.alloc o) w') := Lib.hid fun o => by
    have := join_any (w.alloc o) x c xs (HA.out.list.below (hb0.out o)) HA.out.room hw2.1 (by omega)
    rw [HL.out] at this; exact this
  clear hwr hw2 h1 h2 h3 h4 h5
  go_enter Tryz.func83, Tryz.ntmps83
  go_wp2_with fail
  refine (HCALL.out _).mono ?_
  rintro e w1 ⟨rfl, hb⟩
  have HB := Lib.hid ((hb0.out (.cells #[.int .i64 6, .int .i64 n, .string t, .slice x L c] 48)).trans (hb.mono (hb0.out _).size))
  clear hb HCALL
  go_wp2
  go_ret
  exact ⟨rfl, HB.out⟩

theorem right_cases {v : Val} (hr : rightV v = true) :
    (v.kind = 1 ∧ (0 ≤ v.int ∧ v.int ≤ 1) ∧ v.text.data.toList = [] ∧ v.words.length = 0) ∨
    (v.kind = 2 ∧ (-4611686018427387904 ≤ v.int ∧ v.int ≤ 4611686018427387904) ∧ v.text.data.toList = [] ∧ v.words.length = 0) ∨
    ((v.kind = 3 ∨ v.kind = 4) ∧ (0 ≤ v.int ∧ v.int ≤ mostV v.kind) ∧ v.text.data.toList = [] ∧ v.words.length = 0) ∨
    (v.kind = 5 ∧ v.int = 0 ∧ textV v.text.data.toList = 0 ∧ v.words.length = 0) ∨
    (v.kind = 6 ∧ v.int = 0 ∧ v.text.data.toList = [] ∧ v.words.length ≤ 16 ∧ allWords (wl v.words) = true ∧ (joinW v.words).length ≤ 200) := by
  unfold rightV at hr
  by_cases h1 : v.kind = 1
  · rw [if_pos h1] at hr; simp only [Bool.and_eq_true, decide_eq_true_eq] at hr; exact Or.inl ⟨h1, hr.1.1, hr.1.2, hr.2⟩
  rw [if_neg h1] at hr
  by_cases h2 : v.kind = 2
  · rw [if_pos h2] at hr; simp only [Bool.and_eq_true, decide_eq_true_eq] at hr; exact Or.inr (Or.inl ⟨h2, hr.1.1, hr.1.2, hr.2⟩)
  rw [if_neg h2] at hr
  by_cases h3 : v.kind = 3 ∨ v.kind = 4
  · rw [if_pos h3] at hr; simp only [Bool.and_eq_true, decide_eq_true_eq] at hr; exact Or.inr (Or.inr (Or.inl ⟨h3, hr.1.1, hr.1.2, hr.2⟩))
  rw [if_neg h3] at hr
  by_cases h5 : v.kind = 5
  · rw [if_pos h5] at hr; simp only [Bool.and_eq_true, decide_eq_true_eq] at hr; exact Or.inr (Or.inr (Or.inr (Or.inl ⟨h5, hr.1.1, hr.1.2, hr.2⟩)))
  rw [if_neg h5] at hr
  by_cases h6 : v.kind = 6
  · rw [if_pos h6] at hr; unfold wordsRight at hr; simp only [Bool.and_eq_true, decide_eq_true_eq] at hr; exact Or.inr (Or.inr (Or.inr (Or.inr ⟨h6, hr.1.1, hr.1.2, hr.2.1.1, hr.2.1.2, hr.2.2⟩)))
  rw [if_neg h6] at hr; cases hr
theorem textV_zero {s : List UInt8} (h : textV s = 0) : allText s = true ∧ s.length ≤ 200 := by
  unfold textV at h
  cases ha : allText s with
  | false => rw [ha] at h; simp at h
  | true =>
    refine ⟨rfl, ?_⟩
    rw [ha] at h
    rcases Nat.lt_or_ge 200 s.length with h2 | h2
    · rw [if_neg (by simp), if_pos h2] at h; cases h
    · exact h2
theorem print_len {v : Val} (hr : rightV v = true) : (printV v).length ≤ 200 := by
  rcases right_cases hr with ⟨h, _⟩ | ⟨h, hn, _⟩ | ⟨h, hn, _⟩ | ⟨h, _, ht, _⟩ | ⟨h, _, _, _, _, hj⟩
  · unfold printV; rw [if_pos h]; split <;> simp
  · unfold printV; rw [if_neg (by omega), if_pos h]
    have := itoa_len v.int (by omega) (by omega); omega
  · unfold printV; rw [if_neg (by omega), if_neg (by omega), if_pos h, List.length_append]
    have hm : mostV v.kind ≤ 4611686018427387904 := by unfold mostV; repeat' split
                                                       all_goals omega
    have hu := unitFor_pos v.kind v.int
    have hd := Int.ediv_le_self (unitFor v.kind v.int).1 hn.1
    have hd0 := Int.ediv_nonneg hn.1 (show 0 ≤ (unitFor v.kind v.int).1 by omega)
    have := itoa_len (v.int / (unitFor v.kind v.int).1) (by omega) (by omega)
    have := unit_len v.kind v.int
    omega
  · unfold printV; rw [if_neg (by omega), if_neg (by omega), if_neg (by omega), if_pos h]
    exact (textV_zero ht).2
  · unfold printV; rw [if_neg (by omega), if_neg (by omega), if_neg (by omega), if_neg (by omega)]
    exact hj

set_option maxHeartbeats 1600000 in
set_option maxRecDepth 100000 in
theorem print_any (w : World) (v : Val) (x : Option Addr) (c : Nat) (h : ArgOk w v x c) (hS : Std w) :
    Calls Tryz.prog 43 #[argV v x c] w fun e w' => e = .returned (.tuple #[.string (mkB (printR v).1), .int .i64 (printR v).2]) ∧ Below w.heap.size w w' := by
  have hb0 : Hid (∀ o, Below w.heap.size w (w.alloc o)) := Lib.hid fun o => (Below.refl _ _).alloc (Nat.le_refl _) o
  have HC := Lib.hid (fun o => right_any (w.alloc o) v x c (h.below (hb0.out o)) (hS.tab.below (hb0.out o)))
  have HC2 : Hid (rightV v = true → ∀ w1, Below w.heap.size w w1 → Calls Tryz.prog 83 #[argV v x c] w1 fun e w' => e = .returned (.string (mkB (printV v))) ∧ Below w1.heap.size w1 w') := Lib.hid fun hr w1 hb => vprinted_any w1 v x c (h.below hb) (hS.below hb) hr
  have hpl : Hid (rightV v = true → (mkB (printV v)).size ≤ 281474976710656) := Lib.hid fun hr => by rw [mkB_size]; have := print_len hr; omega
  clear h hS
  obtain ⟨J, hJ⟩ : ∃ J, mkB (printV v) = J := ⟨_, rfl⟩
  rw [hJ] at HC2 hpl
  cases hr : rightV v with
  | false =>
    have HV : Hid (printR v = ([], 1)) := Lib.hid (by unfold printR; rw [hr]; rfl)
    rw [hr] at HC
    clear HC2 hpl hJ hr
    obtain ⟨k, n, t, xs⟩ := v
    unfold argV at HC ⊢
    simp only at HC ⊢
    generalize xs.length = L at HC ⊢
    go_enter Tryz.func43, Tryz.ntmps43
    go_wp2_with fail
    refine (HC.out _).mono ?_
    rintro e w1 ⟨rfl, hb⟩
    have HB := Lib.hid ((hb0.out (.cells #[.int .i64 k, .int .i64 n, .string t, .slice x L c] 48)).trans (hb.mono (hb0.out _).size))
    clear hb HC
    go_wp2
    go_ret2
    exact ⟨ret_val (by rw [HV.out]; rfl), HB.out⟩
  | true =>
    have HV : Hid (printR v = (printV v, 0)) := Lib.hid (by unfold printR; rw [hr]; rfl)
    have HJ := Lib.hid hJ
    have HC3 := Lib.hid (HC2.out hr)
    have HPL := Lib.hid (hpl.out hr)
    rw [hr] at HC
    clear HC2 hpl hJ hr
    obtain ⟨k, n, t, xs⟩ := v
    unfold argV at HC HC3 ⊢
    simp only at HC HC3 ⊢
    generalize xs.length = L at HC HC3 ⊢
    go_enter Tryz.func43, Tryz.ntmps43
    go_wp2_with fail
    refine (HC.out _).mono ?_
    rintro e w1 ⟨rfl, hb⟩
    have HB := Lib.hid ((hb0.out (.cells #[.int .i64 k, .int .i64 n, .string t, .slice x L c] 48)).trans (hb.mono (hb0.out _).size))
    have HBX : Hid (Box4 w1 w.heap.size (.int .i64 k) (.int .i64 n) (.string t) (.slice x L c)) := Lib.hid ((box4_new w _ _ _ _ _).below hb)
    obtain ⟨c0, c1, c2, c3, _, _, _, _⟩ := HBX.out
    clear hb HC
    go_wp2_with fail
    refine (HC3.out _ HB.out).mono ?_
    rintro e w2 ⟨rfl, hb2⟩
    have HB2 := Lib.hid (HB.out.trans (hb2.mono HB.out.size))
    clear hb2 HC3
    go_wp2_with fail
    refine (clone_any _ _ HPL.out).mono ?_
    rintro e w3 ⟨rfl, hb3⟩
    have HB3 := Lib.hid (HB2.out.trans (hb3.mono HB2.out.size))
    clear hb3
    go_wp2
    go_ret2
    exact ⟨ret_val (by rw [HV.out, HJ.out]; rfl), HB3.out⟩
end Go.Proofs.YtopghlnoklajkaaGreatDoor
