/-
  ValueBest, ValuePrint.
-/
import Derived.Test.YtbgoooljkdjjhaaGreatDoorQValueUnit
import Derived.Test.YtbgoooljkdjjhaaGreatDoorQValueRight
namespace Go.Proofs.YtbgoooljkdjjhaaGreatDoor
open Go.ChangeShapes Go.WideShapes Go.ChangeAt Go.RowKit

/-- The row that is found: the last one that fits. -/
def bestIn (k n : Int) : List (Int × ByteArray × Int) → Int × ByteArray × Int → Int × ByteArray × Int
  | [], cur => cur
  | x :: r, cur => bestIn k n r (if x.1 = k ∧ x.2.2 ≤ max n 1 ∧ n % x.2.2 = 0 then x else cur)
theorem fits {v n : Int} (hv : 2 ≤ v) : (v ≤ max n 1 ∧ n % v = 0) ↔ (0 < n ∧ n % v = 0) := by
  constructor
  · rintro ⟨h1, h2⟩; exact ⟨by omega, h2⟩
  · rintro ⟨h1, h2⟩
    refine ⟨?_, h2⟩
    rcases Int.lt_or_le n v with h | h
    · rw [Int.emod_eq_of_lt (by omega) h] at h2; omega
    · omega
theorem fits_one (n : Int) : (1 : Int) ≤ max n 1 ∧ n % 1 = 0 := ⟨by omega, by omega⟩
theorem best_all (k n : Int) (hk : k = 3 ∨ k = 4) : bestIn k n unitRows (0, ⟨#[]⟩, 1) = (k, mkB (unitFor k n).2, (unitFor k n).1) := by
  rcases hk with rfl | rfl
  · simp only [bestIn, unitRows, unitFor, fits (v := 1024) (by decide), fits (v := 1048576) (by decide), fits (v := 1073741824) (by decide), eq_true (fits_one n), true_and, if_true, show ((4 : Int) = 3) = False from by simp, false_and, if_false]
    by_cases h1 : 0 < n ∧ n % 1073741824 = 0
    · rw [if_pos h1, if_pos h1]; rfl
    rw [if_neg h1, if_neg h1]
    by_cases h2 : 0 < n ∧ n % 1048576 = 0
    · rw [if_pos h2, if_pos h2]; rfl
    rw [if_neg h2, if_neg h2]
    by_cases h3 : 0 < n ∧ n % 1024 = 0
    · rw [if_pos h3, if_pos h3]; rfl
    rw [if_neg h3, if_neg h3]; rfl
  · simp only [bestIn, unitRows, unitFor, fits (v := 60) (by decide), fits (v := 3600) (by decide), fits (v := 86400) (by decide), eq_true (fits_one n), true_and, and_true, if_true, show ((4 : Int) = 3) = False from by simp, show ((3 : Int) = 4) = False from by simp, false_and, if_false]
    by_cases h1 : 0 < n ∧ n % 86400 = 0
    · rw [if_pos h1, if_pos h1]; rfl
    rw [if_neg h1, if_neg h1]
    by_cases h2 : 0 < n ∧ n % 3600 = 0
    · rw [if_pos h2, if_pos h2]; rfl
    rw [if_neg h2, if_neg h2]
    by_cases h3 : 0 < n ∧ n % 60 = 0
    · rw [if_pos h3, if_pos h3]; rfl
    rw [if_neg h3, if_neg h3]; rfl

/-- A row that was found, in its block. -/
def Fnd (w : World) (F : Nat) (c : Int × ByteArray × Int) : Prop :=
  w.cell? ⟨F, 0, none⟩ = some (.int .i64 c.1) ∧ w.cell? ⟨F, 1, none⟩ = some (.string c.2.1) ∧ w.cell? ⟨F, 2, none⟩ = some (.int .i64 c.2.2) ∧
  w.frozen? ⟨F, 0, none⟩ = false ∧ w.frozen? ⟨F, 1, none⟩ = false ∧ w.frozen? ⟨F, 2, none⟩ = false

theorem gen_world {P : Program} {c : Code} {Q : Exit → Act → World → Prop} {a : Act} {w : World} (F : World → Prop) (hF : F w) (h : ∀ W, F W → Code.wp P c Q a W) : Code.wp P c Q a w := h w hF
theorem Fnd.lt {w : World} {F : Nat} {c : Int × ByteArray × Int} (h : Fnd w F c) : F < w.heap.size := lt_of_cell h.1
theorem Fnd.below {w w' : World} {F : Nat} {c : Int × ByteArray × Int} (h : Fnd w F c) (hb : Below w.heap.size w w') : Fnd w' F c := by
  have hl := h.lt
  obtain ⟨h0, h1, h2, z0, z1, z2⟩ := h
  exact ⟨by rw [hb.cell hl]; exact h0, by rw [hb.cell hl]; exact h1, by rw [hb.cell hl]; exact h2, by rw [hb.frozen hl]; exact z0, by rw [hb.frozen hl]; exact z1, by rw [hb.frozen hl]; exact z2⟩
def set3 (w : World) (F : Nat) (x y z : Value) : World := ((w.setCell ⟨F, 0, none⟩ x).setCell ⟨F, 1, none⟩ y).setCell ⟨F, 2, none⟩ z
theorem Fnd.set3 {w : World} {F : Nat} {c : Int × ByteArray × Int} (h : Fnd w F c) (d : Int × ByteArray × Int) : Fnd (set3 w F (.int .i64 d.1) (.string d.2.1) (.int .i64 d.2.2)) F d := by
  obtain ⟨h0, h1, h2, z0, z1, z2⟩ := h
  have a0 := World.cell?_setCell_same w ⟨F, 0, none⟩ (.int .i64 d.1) h0
  have a1 : (w.setCell ⟨F, 0, none⟩ (.int .i64 d.1)).cell? ⟨F, 1, none⟩ = some (.string c.2.1) := by rw [World.cell?_setCell_other _ _ _ _ (by simp), h1]
  have a2 : (w.setCell ⟨F, 0, none⟩ (.int .i64 d.1)).cell? ⟨F, 2, none⟩ = some (.int .i64 c.2.2) := by rw [World.cell?_setCell_other _ _ _ _ (by simp), h2]
  have b1 := World.cell?_setCell_same _ ⟨F, 1, none⟩ (.string d.2.1) a1
  have b2 : ((w.setCell ⟨F, 0, none⟩ (.int .i64 d.1)).setCell ⟨F, 1, none⟩ (.string d.2.1)).cell? ⟨F, 2, none⟩ = some (.int .i64 c.2.2) := by rw [World.cell?_setCell_other _ _ _ _ (by simp), a2]
  refine ⟨?_, ?_, World.cell?_setCell_same _ ⟨F, 2, none⟩ (.int .i64 d.2.2) b2, ?_, ?_, ?_⟩
  · unfold Go.Proofs.YtbgoooljkdjjhaaGreatDoor.set3; rw [World.cell?_setCell_other _ _ _ _ (by simp), World.cell?_setCell_other _ _ _ _ (by simp), a0]
  · unfold Go.Proofs.YtbgoooljkdjjhaaGreatDoor.set3; rw [World.cell?_setCell_other _ _ _ _ (by simp), b1]
  all_goals (unfold Go.Proofs.YtbgoooljkdjjhaaGreatDoor.set3; rw [World.frozen?_setCell, World.frozen?_setCell, World.frozen?_setCell]; assumption)
theorem apartF {F R : Nat} (h : ¬ F = R) (i j : Nat) : (⟨F, i, none⟩ : Addr) ≠ ⟨R, j, none⟩ := fun e => h (congrArg Addr.block e)
theorem Fnd.other {w : World} {F R : Nat} {c : Int × ByteArray × Int} (h : Fnd w R c) (hn : ¬ F = R) (x y z : Value) : Fnd (Go.Proofs.YtbgoooljkdjjhaaGreatDoor.set3 w F x y z) R c := by
  obtain ⟨h0, h1, h2, z0, z1, z2⟩ := h
  unfold Go.Proofs.YtbgoooljkdjjhaaGreatDoor.set3
  refine ⟨?_, ?_, ?_, ?_, ?_, ?_⟩
  · rw [World.cell?_setCell_other _ _ _ _ (apartF hn _ _), World.cell?_setCell_other _ _ _ _ (apartF hn _ _), World.cell?_setCell_other _ _ _ _ (apartF hn _ _)]; exact h0
  · rw [World.cell?_setCell_other _ _ _ _ (apartF hn _ _), World.cell?_setCell_other _ _ _ _ (apartF hn _ _), World.cell?_setCell_other _ _ _ _ (apartF hn _ _)]; exact h1
  · rw [World.cell?_setCell_other _ _ _ _ (apartF hn _ _), World.cell?_setCell_other _ _ _ _ (apartF hn _ _), World.cell?_setCell_other _ _ _ _ (apartF hn _ _)]; exact h2
  all_goals (rw [World.frozen?_setCell, World.frozen?_setCell, World.frozen?_setCell]; assumption)
theorem below_set3 {B : Nat} {a w : World} (h : Below B a w) {F : Nat} (hF : B ≤ F) (x y z : Value) : Below B a (Go.Proofs.YtbgoooljkdjjhaaGreatDoor.set3 w F x y z) :=
  ((h.setCell (p := ⟨F, 0, none⟩) hF x).setCell (p := ⟨F, 1, none⟩) hF y).setCell (p := ⟨F, 2, none⟩) hF z

end Go.Proofs.YtbgoooljkdjjhaaGreatDoor

namespace Go.Proofs.YtbgoooljkdjjhaaGreatDoor
open Go.ChangeShapes Go.WideShapes Go.ChangeAt Go.RowKit

theorem mkB_append (a b : List UInt8) : mkB a ++ mkB b = mkB (a ++ b) := by
  rw [← mkB_self (mkB a ++ mkB b)]
  congr 1
theorem unitFor_pos (k n : Int) : 1 ≤ (unitFor k n).1 ∧ (unitFor k n).1 ≤ 1073741824 := by
  unfold unitFor; repeat' split
  all_goals simp

theorem nDigits_bd : ∀ (k u : Nat), u < 10 ^ (k + 1) → Lib.nDigits u ≤ k + 1
  | 0, u, h => by rw [Lib.nDigits_small (by simpa using h)]; omega
  | k + 1, u, h => by
    by_cases hs : u < 10
    · rw [Lib.nDigits_small hs]; omega
    · rw [Lib.nDigits_big hs]
      have := nDigits_bd k (u / 10) (by rw [Nat.pow_succ] at h; omega)
      omega
theorem itoa_len (n : Int) (h0 : -9223372036854775808 ≤ n) (h1 : n ≤ 9223372036854775807) : (Lib.itoa n).length ≤ 20 := by
  unfold Lib.itoa
  split
  · rw [List.length_cons, Lib.decDigits_length]
    have := nDigits_bd 18 n.natAbs (by have : (10 : Nat) ^ (18 + 1) = 10000000000000000000 := by decide
                                       omega)
    omega
  · rw [Lib.decDigits_length]
    have := nDigits_bd 18 n.toNat (by have : (10 : Nat) ^ (18 + 1) = 10000000000000000000 := by decide
                                      omega)
    omega
theorem unit_len (k n : Int) : (unitFor k n).2.length ≤ 1 := by
  unfold unitFor; repeat' split
  all_goals simp

theorem right_cases {v : Val} (hr : rightV v = true) :
    (v.kind = 1 ∧ (0 ≤ v.int ∧ v.int ≤ 1) ∧ v.text.data.toList = [] ∧ v.words.length = 0) ∨
    (v.kind = 2 ∧ (-4611686018427387904 ≤ v.int ∧ v.int ≤ 4611686018427387904) ∧ v.text.data.toList = [] ∧ v.words.length = 0) ∨
    ((v.kind = 3 ∨ v.kind = 4) ∧ (0 ≤ v.int ∧ v.int ≤ mostV v.kind) ∧ v.text.data.toList = [] ∧ v.words.length = 0) ∨
    (v.kind = 5 ∧ v.int = 0 ∧ textV v.text.data.toList = 0 ∧ v.words.length = 0) ∨
    (v.kind = 6 ∧ v.int = 0 ∧ v.text.data.toList = [] ∧ v.words.length ≤ 16 ∧ allWords (wl v.words) = true ∧ (joinW v.words).length ≤ 200) := by
  unfold rightV at hr
  by_cases h1 : v.kind = 1
  · rw [if_pos h1] at hr; simp only [Bool.and_eq_true, decide_eq_true_eq] at hr; exact Or.inl ⟨h1, hr.1.1, hr.1.2, hr.2⟩
  rw [if_neg h1] at hr
  by_cases h2 : v.kind = 2
  · rw [if_pos h2] at hr; simp only [Bool.and_eq_true, decide_eq_true_eq] at hr; exact Or.inr (Or.inl ⟨h2, hr.1.1, hr.1.2, hr.2⟩)
  rw [if_neg h2] at hr
  by_cases h3 : v.kind = 3 ∨ v.kind = 4
  · rw [if_pos h3] at hr; simp only [Bool.and_eq_true, decide_eq_true_eq] at hr; exact Or.inr (Or.inr (Or.inl ⟨h3, hr.1.1, hr.1.2, hr.2⟩))
  rw [if_neg h3] at hr
  by_cases h5 : v.kind = 5
  · rw [if_pos h5] at hr; simp only [Bool.and_eq_true, decide_eq_true_eq] at hr; exact Or.inr (Or.inr (Or.inr (Or.inl ⟨h5, hr.1.1, hr.1.2, hr.2⟩)))
  rw [if_neg h5] at hr
  by_cases h6 : v.kind = 6
  · rw [if_pos h6] at hr; unfold wordsRight at hr; simp only [Bool.and_eq_true, decide_eq_true_eq] at hr; exact Or.inr (Or.inr (Or.inr (Or.inr ⟨h6, hr.1.1, hr.1.2, hr.2.1.1, hr.2.1.2, hr.2.2⟩)))
  rw [if_neg h6] at hr; cases hr
theorem textV_zero {s : List UInt8} (h : textV s = 0) : allText s = true ∧ s.length ≤ 200 := by
  unfold textV at h
  cases ha : allText s with
  | false => rw [ha] at h; simp at h
  | true =>
    refine ⟨rfl, ?_⟩
    rw [ha] at h
    rcases Nat.lt_or_ge 200 s.length with h2 | h2
    · rw [if_neg (by simp), if_pos h2] at h; cases h
    · exact h2
theorem print_len {v : Val} (hr : rightV v = true) : (printV v).length ≤ 200 := by
  rcases right_cases hr with ⟨h, _⟩ | ⟨h, hn, _⟩ | ⟨h, hn, _⟩ | ⟨h, _, ht, _⟩ | ⟨h, _, _, _, _, hj⟩
  · unfold printV; rw [if_pos h]; split <;> simp
  · unfold printV; rw [if_neg (by omega), if_pos h]
    have := itoa_len v.int (by omega) (by omega); omega
  · unfold printV; rw [if_neg (by omega), if_neg (by omega), if_pos h, List.length_append]
    have hm : mostV v.kind ≤ 4611686018427387904 := by unfold mostV; repeat' split
                                                       all_goals omega
    have hu := unitFor_pos v.kind v.int
    have hd := Int.ediv_le_self (unitFor v.kind v.int).1 hn.1
    have hd0 := Int.ediv_nonneg hn.1 (show 0 ≤ (unitFor v.kind v.int).1 by omega)
    have := itoa_len (v.int / (unitFor v.kind v.int).1) (by omega) (by omega)
    have := unit_len v.kind v.int
    omega
  · unfold printV; rw [if_neg (by omega), if_neg (by omega), if_neg (by omega), if_pos h]
    exact (textV_zero ht).2
  · unfold printV; rw [if_neg (by omega), if_neg (by omega), if_neg (by omega), if_neg (by omega)]
    exact hj

end Go.Proofs.YtbgoooljkdjjhaaGreatDoor
