/-
  A reader of package ini with all that it holds: its names, its lines.
-/
import Derived.Test.YtbpbiakdigjcnaaDoorIniSection
import Derived.Test.YtbpbiakdigjcnaaDoorIniNames
import Derived.OwnWalk
import Derived.Deep.AppendLies
namespace Go.Proofs.YtbpbiakdigjcnaaDoor
open Go.ChangeShapes Go.WideShapes Go.ChangeAt Go.RowKit

def lCells (l : LineV) : List Value := [.string l.name, .string l.text, .int .i64 l.num]
def flatL (ls : List LineV) : List Value := ls.flatMap lCells
def namesL (ls : List LineV) : List (List UInt8) := ls.map fun l => l.name.data.toList
theorem flatL_len (ls : List LineV) : (flatL ls).length = ls.length * 3 := by
  induction ls with
  | nil => rfl
  | cons l ls ih => show (lCells l ++ flatL ls).length = _; rw [List.length_append, ih, List.length_cons]; show 3 + _ = _; omega
theorem flatL_snoc (ls : List LineV) (l : LineV) : flatL (ls ++ [l]) = flatL ls ++ lCells l := by unfold flatL; rw [List.flatMap_append]; simp
theorem given_names (ls : List LineV) (n : List UInt8) : (namesL ls).contains n = givenB ls n := by
  unfold namesL givenB
  rw [Bool.eq_iff_iff]
  simp only [List.contains_iff_mem, List.mem_map, List.any_eq_true, decide_eq_true_eq]
theorem infoLine : (Tryd.prog.info? 35).map (fun i => (i.zero, i.size, i.bytes)) = some (some (.agg #[.string ByteArray.empty, .string ByteArray.empty, .int .i64 0]), 3, 40) := by kernel_rfl
theorem grown_of_below {w w' : World} (h : Below w.heap.size w w') (row : Option Nat) : w.grownBy w' row := ⟨h.os, h.tape, h.output, h.size, fun k hk _ => h.block k hk⟩
theorem grown_of_but {S : Nat} {w w' : World} (h : But S w w') : w.grownBy w' (some S) := ⟨h.1, h.2.1, h.2.2.1, h.2.2.2.1, fun k hk hn => h.2.2.2.2 k hk (fun e => hn (by rw [e]))⟩

structure RS (B : Nat) (w : World) (R M : Nat) (num : Int) (a : List UInt8) (ls : List LineV) (v : Value) : Prop where
  rd : RdAt w R num a M v
  set : SetM w M (namesL ls)
  row : w.ownsRow B 35 3 v ls.length (flatL ls)
  base : B ≤ w.heap.size
  hne : R ≠ M
  r1 : v.ownBlock ≠ some R
  r2 : v.ownBlock ≠ some M
variable {B : Nat} {w w' : World} {R M : Nat} {num : Int} {a : List UInt8} {ls : List LineV} {v : Value}
theorem RS.below (h : RS B w R M num a ls v) (hb : Below w.heap.size w w') : RS B w' R M num a ls v :=
  ⟨h.rd.below hb, h.set.below hb, h.row.kept (grown_of_below hb none) (by cases h2 : v.ownBlock with | none => exact Or.inl rfl | some _ => exact Or.inr (by simp)), Nat.le_trans h.base hb.size, h.hne, h.r1, h.r2⟩
theorem RdAt.but {S : Nat} (h : RdAt w R num a M v) (hb : But S w w') (hn : R ≠ S) : RdAt w' R num a M v := by
  have hk := hb.2.2.2.2 R h.lt hn
  have c : ∀ j, w'.cell? ⟨R, j, none⟩ = w.cell? ⟨R, j, none⟩ := fun j => World.cell?_of_block hk
  exact ⟨by rw [c]; exact h.c0, by rw [c]; exact h.c1, by rw [c]; exact h.c2, by rw [c]; exact h.c3, fun j hj => by rw [World.frozen?_of_block (a := ⟨R, j, none⟩) hk]; exact h.fz j hj⟩
/-- The names have turned. -/
theorem RS.named {l : List (List UInt8)} (h : RS B w R M num a ls v) (hb : But M w w') (hs : SetM w' M l) : RdAt w' R num a M v ∧ SetM w' M l ∧ w'.ownsRow B 35 3 v ls.length (flatL ls) ∧ Fr B R M w w' :=
  ⟨h.rd.but hb h.hne, hs, h.row.kept (grown_of_but hb) (Or.inr h.r2), fr_but2 hb h.base⟩
/-- The section has turned. -/
theorem RS.ahead {b : List UInt8} (h : RS B w R M num a ls v) (hb : But R w w') (hr : RdAt w' R num b M v) : RS B w' R M num b ls v :=
  ⟨hr, h.set.same (hb.2.2.2.2 M h.set.lt (fun e => h.hne e.symm)), h.row.kept (grown_of_but hb) (Or.inr h.r1), Nat.le_trans h.base hb.2.2.2.1, h.hne, h.r1, h.r2⟩

theorem after_none {d : UInt8} {l : List UInt8} (h : l.contains d = false) : after d l = [] := by
  induction l with
  | nil => rfl
  | cons c r ih =>
    have e : c ≠ d := fun e => by subst e; simp at h
    rw [has_cons e] at h
    rw [after_cons e, ih h]
theorem cutV_is (d : UInt8) (l : List UInt8) : cutV d l = .tuple #[.string (mkB (upTo d l)), .string (mkB (after d l)), .bool (l.contains d)] := by
  unfold cutV
  by_cases h : l.contains d = true
  · rw [if_pos h, h]
  · have h' : l.contains d = false := by simpa using h
    rw [if_neg h, h', upTo_none h', after_none h']; rfl
theorem upTo_len (d : UInt8) (l : List UInt8) : (upTo d l).length ≤ l.length := (List.takeWhile_sublist _).length_le
theorem after_len (d : UInt8) (l : List UInt8) : (after d l).length ≤ l.length := by
  unfold after
  exact ((List.drop_sublist 1 _).trans (List.dropWhile_sublist _)).length_le
theorem trimR_len (l : List UInt8) : (trimR l).length ≤ l.length := by
  unfold trimR Lib.trimRightS
  rw [List.length_reverse]
  calc _ ≤ l.reverse.length := (List.dropWhile_sublist _).length_le
    _ = l.length := by simp
theorem trimL_len (l : List UInt8) : (trimL l).length ≤ l.length := (List.dropWhile_sublist _).length_le
/-- What a setting's line gives. -/
def settingB (num : Int) (a : List UInt8) (ls : List LineV) (x : List UInt8) : Option LineV :=
  if x.contains 61 = true ∧ givenB ls (a ++ trimR (upTo 61 x)) = false ∧ nameB (a ++ trimR (upTo 61 x)) = true then
    (meantB (trimL (after 61 x))).map fun t => ⟨mkB (a ++ trimR (upTo 61 x)), mkB t, num⟩
  else none
def SetRes (B : Nat) (w : World) (R M : Nat) (num : Int) (a : List UInt8) (ls : List LineV) (o : Option LineV) (e : Ending) (w' : World) : Prop :=
  match o with
  | none => e = bad num ∧ Fr B R M w w'
  | some l => e = .returned (.tuple #[]) ∧ Fr B R M w w' ∧ ∃ v', RS B w' R M num a (ls ++ [l]) v'
end Go.Proofs.YtbpbiakdigjcnaaDoor
