/-
  The walk of package ini's takeSection.
-/
import Derived.Test.YtbpbiakdigjcnaaDoorIniMeant
import Derived.Test.YtbpbiakdigjcnaaDoorBut
namespace Go.Proofs.YtbpbiakdigjcnaaDoor
open Go.ChangeShapes Go.WideShapes Go.ChangeAt Go.RowKit

theorem RdAt.put {w : World} {R : Nat} {num : Int} {a : List UInt8} {M : Nat} {v : Value} (h : RdAt w R num a M v) (b : List UInt8) : RdAt (w.setCell ⟨R, 1, none⟩ (.string (mkB b))) R num b M v := by
  have o : ∀ j, 1 ≠ j → (w.setCell ⟨R, 1, none⟩ (.string (mkB b))).cell? ⟨R, j, none⟩ = w.cell? ⟨R, j, none⟩ := fun j hj => World.cell?_setCell_other _ _ _ _ (fun e => hj (by injection e))
  exact ⟨by rw [o 0 (by decide)]; exact h.c0, World.cell?_setCell_same _ _ _ h.c1, by rw [o 2 (by decide)]; exact h.c2, by rw [o 3 (by decide)]; exact h.c3, fun j hj => by rw [World.frozen?_setCell]; exact h.fz j hj⟩
theorem mkB_join (a b : List UInt8) : mkB a ++ mkB b = mkB (a ++ b) := by
  rw [← mkB_self (mkB a ++ mkB b)]
  congr 1
/-- What takeSection does. -/
def SecRes (w : World) (R : Nat) (num : Int) (M : Nat) (v : Value) (o : Option (List UInt8)) (e : Ending) (w' : World) : Prop :=
  match o with
  | none => e = bad num ∧ Below w.heap.size w w'
  | some a => e = .returned (.tuple #[]) ∧ RdAt w' R num a M v ∧ But R w w'
set_option maxHeartbeats 1600000 in
set_option maxRecDepth 100000 in
theorem takeSection_any (R M : Nat) (num : Int) (a : List UInt8) (v : Value) (s : ByteArray) (w : World) (h : RdAt w R num a M v) (hT : Tab w) (hM : MaxI w) (hs : s.size ≤ 8000) :
    Calls Tryd.prog 48 #[.pointer (some ⟨R, 0, none⟩), .string s] w (SecRes w R num M v (secOf s.data.toList)) := by
  have HL : Hid (∀ w1, Below w.heap.size w w1 → RdAt w1 R num a M v) := Lib.hid fun w1 hb => h.below hb
  have HOK : Hid (∀ w1, Below w.heap.size w w1 → Calls Tryd.prog 65 #[.pointer (some ⟨R, 0, none⟩), .bool true] w1 fun e w' => e = .returned (.tuple #[]) ∧ Below w1.heap.size w1 w') := Lib.hid fun w1 hb => rmust_ok R num w1 (HL.out w1 hb).c0
  have HNO : Hid (∀ w1, Below w.heap.size w w1 → Calls Tryd.prog 65 #[.pointer (some ⟨R, 0, none⟩), .bool false] w1 fun e w' => e = bad num ∧ Below w1.heap.size w1 w') := Lib.hid fun w1 hb => rmust_no R num w1 (HL.out w1 hb).c0
  have HC := Lib.hid (sufAt_any 93 s w (by omega))
  have H0 := Lib.hid (Below.refl w.heap.size w)
  have hlen : s.data.toList.length = s.size := by simp
  clear h
  by_cases hc : s.data.toList.getLast? = some 93
  · rw [show sufV 93 s.data.toList = .tuple #[.string (mkB s.data.toList.dropLast), .bool true] by unfold sufV; rw [if_pos hc]] at HC
    have hdl : (mkB s.data.toList.dropLast).size = s.data.toList.length - 1 := by rw [len_mkB, List.length_dropLast]
    have HS := Lib.hid (isSection_any (mkB s.data.toList.dropLast) w hT hM (by omega))
    rw [mkB_data] at HS
    have hsec : secOf s.data.toList = if secB s.data.toList.dropLast = true then some (if s.data.toList.dropLast.isEmpty then [] else s.data.toList.dropLast ++ [46]) else none := by
      unfold secOf
      by_cases hb : secB s.data.toList.dropLast = true
      · rw [if_pos ⟨hc, hb⟩, if_pos hb]
      · rw [if_neg (fun h => hb h.2), if_neg hb]
    rw [hsec]
    generalize s.data.toList.dropLast = p at *
    cases hb : secB p with
    | false =>
      rw [hb] at HS
      rw [if_neg (by decide)]
      clear hsec hT hM hb hdl hlen
      generalize mkB p = pb at *
      go_enter Tryd.func48, Tryd.ntmps48
      go_wp2_with fail
      refine HC.out.mono ?_
      rintro e w' ⟨rfl, rfl⟩
      go_wp2_with fail
      refine HS.out.mono ?_
      rintro e w1 ⟨rfl, hb1⟩
      have HB := Lib.hid hb1
      clear hb1
      go_wp2_with fail
      refine (HNO.out _ HB.out).mono ?_
      rintro e w2 ⟨rfl, hb2⟩
      exact ⟨rfl, rfl, HB.out.trans (hb2.mono HB.out.size)⟩
    | true =>
      rw [hb] at HS
      rw [if_pos rfl]
      clear hsec hT hM hb
      by_cases hp : p = []
      · subst hp
        go_enter Tryd.func48, Tryd.ntmps48
        go_wp2_with fail
        refine HC.out.mono ?_
        rintro e w' ⟨rfl, rfl⟩
        go_wp2_with fail
        refine HS.out.mono ?_
        rintro e w1 ⟨rfl, hb1⟩
        have HB := Lib.hid hb1
        clear hb1
        go_wp2_with fail
        refine (HOK.out _ HB.out).mono ?_
        rintro e w2 ⟨rfl, hb2⟩
        have HB2 := Lib.hid (HB.out.trans (hb2.mono HB.out.size))
        have HR2 := Lib.hid (HL.out _ HB2.out)
        clear hb2
        have c1 := HR2.out.c1
        have f1 := HR2.out.fz 1 (by decide)
        rw [show mkB [] = (⟨#[]⟩ : ByteArray) from rfl]
        have HE : Hid (RdAt (w2.setCell ⟨R, 1, none⟩ (.string ⟨#[]⟩)) R num [] M v ∧ But R w (w2.setCell ⟨R, 1, none⟩ (.string ⟨#[]⟩))) := Lib.hid ⟨HR2.out.put [], (But.of_below HB2.out).setCell 1 _⟩
        go_wp2
        go_end0
        exact ⟨rfl, HE.out.1, HE.out.2⟩
      · have hpe : p.isEmpty = false := by cases p with | nil => exact absurd rfl hp | cons _ _ => rfl
        rw [hpe, if_neg (by decide)]
        have hps : mkB p ++ ⟨#[46]⟩ = mkB (p ++ [46]) := mkB_join p [46]
        have d0 : (mkB p).toList.isEmpty = false := by rw [toList_eq, mkB_data]; exact hpe
        have hsz : ¬ 9223372036854775807 < (mkB p).size + 1 := by omega
        have HPS := Lib.hid hps
        generalize hpb : mkB p = pb at *
        generalize hqb : mkB (p ++ [46]) = qb at *
        have HQB := Lib.hid hqb
        clear hdl hlen hp hpe hpb hqb
        go_enter Tryd.func48, Tryd.ntmps48
        go_wp2_with fail
        refine HC.out.mono ?_
        rintro e w' ⟨rfl, rfl⟩
        go_wp2_with fail
        refine HS.out.mono ?_
        rintro e w1 ⟨rfl, hb1⟩
        have HB := Lib.hid hb1
        clear hb1
        go_wp2_with fail
        refine (HOK.out _ HB.out).mono ?_
        rintro e w2 ⟨rfl, hb2⟩
        have HB2 := Lib.hid (HB.out.trans (hb2.mono HB.out.size))
        have HR2 := Lib.hid (HL.out _ HB2.out)
        clear hb2
        have c1 := HR2.out.c1
        have f1 := HR2.out.fz 1 (by decide)
        have HR3 : Hid (RdAt (w2.setCell ⟨R, 1, none⟩ (.string ⟨#[]⟩)) R num [] M v) := Lib.hid (HR2.out.put [])
        have HE : Hid (RdAt ((w2.setCell ⟨R, 1, none⟩ (.string ⟨#[]⟩)).setCell ⟨R, 1, none⟩ (.string qb)) R num (p ++ [46]) M v ∧ But R w ((w2.setCell ⟨R, 1, none⟩ (.string ⟨#[]⟩)).setCell ⟨R, 1, none⟩ (.string qb))) := Lib.hid (by
          rw [← HQB.out]
          exact ⟨HR3.out.put (p ++ [46]), ((But.of_below HB2.out).setCell 1 _).setCell 1 _⟩)
        have e1 := HR3.out.c1
        have g1 := HR3.out.fz 1 (by decide)
        go_wp2
        go_end0
        exact ⟨rfl, HE.out.1, HE.out.2⟩
  · rw [show sufV 93 s.data.toList = .tuple #[.string (mkB s.data.toList), .bool false] by unfold sufV; rw [if_neg hc]] at HC
    rw [show secOf s.data.toList = none by unfold secOf; rw [if_neg (fun h => hc h.1)]]
    generalize mkB s.data.toList = pb at *
    clear hT hM hlen
    go_enter Tryd.func48, Tryd.ntmps48
    go_wp2_with fail
    refine HC.out.mono ?_
    rintro e w' ⟨rfl, rfl⟩
    go_wp2_with fail
    refine (HNO.out _ H0.out).mono ?_
    rintro e w2 ⟨rfl, hb2⟩
    exact ⟨rfl, rfl, hb2⟩
end Go.Proofs.YtbpbiakdigjcnaaDoor
