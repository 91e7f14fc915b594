/-
  The walk of package ini's takeSetting.
-/
import Derived.Test.YtbpbiakdigjcnaaDoorIniState
import Derived.Deep.RegionHeld3
namespace Go.Proofs.YtbpbiakdigjcnaaDoor
open Go.ChangeShapes Go.WideShapes Go.ChangeAt Go.RowKit

theorem meant_len {t u : List UInt8} (h : meantB t = some u) : u.length ≤ 200 := by
  unfold meantB at h
  simp only at h
  generalize (if t.head? = some 34 then unqL t else if plainB t then some t else none) = m at h
  cases m with
  | none => cases h
  | some x =>
    have h : (if x.length ≤ 200 then some x else none) = some u := h
    split at h
    · rename_i hx
      rw [← Option.some.inj h]; exact hx
    · cases h
theorem RdAt.lines {w : World} {R : Nat} {num : Int} {a : List UInt8} {M : Nat} {v : Value} (h : RdAt w R num a M v) (u : Value) : RdAt (w.setCell ⟨R, 3, none⟩ u) R num a M u := by
  have o : ∀ j, 3 ≠ j → (w.setCell ⟨R, 3, none⟩ u).cell? ⟨R, j, none⟩ = w.cell? ⟨R, j, none⟩ := fun j hj => World.cell?_setCell_other _ _ _ _ (fun e => hj (by injection e))
  exact ⟨by rw [o 0 (by decide)]; exact h.c0, by rw [o 1 (by decide)]; exact h.c1, by rw [o 2 (by decide)]; exact h.c2, World.cell?_setCell_same _ _ _ h.c3, fun j hj => by rw [World.frozen?_setCell]; exact h.fz j hj⟩
theorem lCells_one (l : LineV) : ∀ u ∈ lCells l, u.oneCell' = true := by
  intro u hu
  simp only [lCells, List.mem_cons, List.not_mem_nil, or_false] at hu
  rcases hu with rfl | rfl | rfl <;> rfl
theorem set_row {B : Nat} {w w' : World} {v : Value} {n : Nat} {xs : List Value} (h : w.ownsRow B 35 3 v n xs) (hb : Below w.heap.size w w') : w'.ownsRow B 35 3 v n xs :=
  h.kept (grown_of_below hb none) (by cases h2 : v.ownBlock with | none => exact Or.inl rfl | some _ => exact Or.inr (by simp))
theorem set_base {B R M : Nat} {w w3 w6 w8 w9 : World} (h : B ≤ w.heap.size) (h3 : Fr B R M w w3) (h6 : Below w3.heap.size w3 w6) (h8 : Below w6.heap.size w6 w8) (h9 : Below w8.heap.size w8 w9) : B ≤ w9.heap.size :=
  Nat.le_trans h (Nat.le_trans h3.size (Nat.le_trans h6.size (Nat.le_trans h8.size h9.size)))
theorem set_frozen {w8 w9 : World} {R M : Nat} {num : Int} {a : List UInt8} {v : Value} {o : Obj} (h : RdAt w8 R num a M v) (hg : (w8.alloc o).grownBy w9 v.ownBlock) (r1 : v.ownBlock ≠ some R) : w9.frozen? ⟨R, 3, none⟩ = false := by
  have h2 := h.below (below_one w8 o)
  rw [World.frozen?_of_block (a := ⟨R, 3, none⟩) (hg.block R h2.lt (fun e => r1 e.symm))]
  exact h2.fz 3 (by decide)
/-- A line goes to the lines. -/
theorem step_line {ops : Array Oper} {o : Oper} {a : Act} {w8 : World} {K : Act → World → Prop} {Q : Exit → Act → World → Prop} {E : Prop} (hgd : o.guard = none) (s x : Operand)
    (ho : o.op = .call { callee := .builtin .append, args := #[s, x], argTypes := #[27, 27] }) {B n : Nat} {v : Value} {xs : List Value} (hown : w8.ownsRow B 35 3 v n xs) (hB : B ≤ w8.heap.size) (hn : n ≤ 1000000) (hs : a.eval s = v) (l : LineV) {t : TypeId}
    (hx : a.eval x = .slice (some ⟨w8.heap.size, 0, none⟩) 1 1)
    (h : ∀ g cap w9, w9.ownsRow B 35 3 (.slice (some ⟨g, 0, none⟩) (n + 1) cap) (n + 1) (xs ++ lCells l) → (w8.alloc (Obj.cells #[.string l.name, .string l.text, .int .i64 l.num] t)).grownBy w9 v.ownBlock → (v.ownBlock = some g ∨ g = (w8.alloc (Obj.cells #[.string l.name, .string l.text, .int .i64 l.num] t)).heap.size) → K (a.put o.dst (.slice (some ⟨g, 0, none⟩) (n + 1) cap)) w9) :
    if Region.wanted o (yielded ops a.tmps) = true then Oper.wp Tryd.prog o a (w8.alloc (Obj.cells #[.string l.name, .string l.text, .int .i64 l.num] t)) K Q else E := by
  obtain ⟨i0, hi, hz0, hz1, hz2⟩ := info_parts infoLine
  refine step_append_lies _ hgd s x _ ho B 35 i0 _ 3 40 Tryd.underlying27 hi hz0 hz1 hz2 rfl (by decide) v n xs hs (hown.alloc _) ⟨w8.heap.size, 0, none⟩ 1 1 (lCells l) hx rfl (World.news_of_block (heap_alloc_new w8 _)) (lCells_one _) (by decide) (by unfold maxLen; omega) (by omega) (Nat.le_trans hB (below_one w8 _).size) _ rfl ?_
  intro g cap w9 h1 h2 h3 _
  exact h g cap w9 h1 h2 h3
/-- The reader behind a line that gave something. -/
theorem set_fin {B R M g cap : Nat} {num : Int} {a : List UInt8} {ls : List LineV} {l : LineV} {v : Value} {w8 w9 : World} {o : Obj} (hne : R ≠ M) (r1 : v.ownBlock ≠ some R) (r2 : v.ownBlock ≠ some M)
    (h8 : RdAt w8 R num a M v) (hs : SetM w8 M (namesL ls ++ [l.name.data.toList])) (hrow : w9.ownsRow B 35 3 (.slice (some ⟨g, 0, none⟩) (ls.length + 1) cap) (ls.length + 1) (flatL ls ++ lCells l)) (hg : (w8.alloc o).grownBy w9 v.ownBlock)
    (hl : v.ownBlock = some g ∨ g = (w8.alloc o).heap.size) (hB : B ≤ w8.heap.size) (hv : ∀ k, v.ownBlock = some k → B ≤ k) :
    RS B (w9.setCell ⟨R, 3, none⟩ (.slice (some ⟨g, 0, none⟩) (ls.length + 1) cap)) R M num a (ls ++ [l]) (.slice (some ⟨g, 0, none⟩) (ls.length + 1) cap) ∧ Fr B R M w8 (w9.setCell ⟨R, 3, none⟩ (.slice (some ⟨g, 0, none⟩) (ls.length + 1) cap)) := by
  have hb := below_one w8 o
  have hRl : R < (w8.alloc o).heap.size := Nat.lt_of_lt_of_le h8.lt hb.size
  have hMl : M < (w8.alloc o).heap.size := Nat.lt_of_lt_of_le hs.lt hb.size
  have hRk := hg.block R hRl (fun e => r1 e.symm)
  have hMk := hg.block M hMl (fun e => r2 e.symm)
  have hgR : g ≠ R := fun e => by
    rcases hl with hl | hl
    · exact r1 (by rw [hl, e])
    · omega
  have hgM : g ≠ M := fun e => by
    rcases hl with hl | hl
    · exact r2 (by rw [hl, e])
    · omega
  have hRd : RdAt w9 R num a M v := by
    have h := h8.below hb
    have c : ∀ j, w9.cell? ⟨R, j, none⟩ = (w8.alloc o).cell? ⟨R, j, none⟩ := fun j => World.cell?_of_block hRk
    exact ⟨by rw [c]; exact h.c0, by rw [c]; exact h.c1, by rw [c]; exact h.c2, by rw [c]; exact h.c3, fun j hj => by rw [World.frozen?_of_block (a := ⟨R, j, none⟩) hRk]; exact h.fz j hj⟩
  have hSt : SetM w9 M (namesL ls ++ [l.name.data.toList]) := (hs.below hb).same hMk
  have hbut : But R w9 (w9.setCell ⟨R, 3, none⟩ (.slice (some ⟨g, 0, none⟩) (ls.length + 1) cap)) := (But.refl R w9).setCell 3 _
  have h1 : Below B w8 w9 := (hb.mono hB).grown hg (Nat.le_trans hB hb.size) hv
  refine ⟨⟨hRd.lines _, ?_, ?_, Nat.le_trans hB (Nat.le_trans h1.size hbut.2.2.2.1), hne, ?_, ?_⟩, ?_⟩
  · rw [show namesL (ls ++ [l]) = namesL ls ++ [l.name.data.toList] by unfold namesL; rw [List.map_append]; rfl]
    exact hSt.same (hbut.2.2.2.2 M hSt.lt (fun e => hne e.symm))
  · rw [List.length_append, flatL_snoc]
    exact hrow.kept (grown_of_but hbut) (Or.inr (by simp [Value.ownBlock]; exact hgR))
  · simp [Value.ownBlock]; exact hgR
  · simp [Value.ownBlock]; exact hgM
  · exact (fr_of h1).trans (fr_but hbut (Nat.le_trans hB h1.size))
set_option maxHeartbeats 3200000 in
set_option maxRecDepth 100000 in
theorem takeSetting_any (B R M : Nat) (num : Int) (a : List UInt8) (ls : List LineV) (v : Value) (s : ByteArray) (w : World) (h : RS B w R M num a ls v) (hT : Tab w) (hI : MaxI w) (hs : s.size ≤ 8000) (ha : a.length ≤ 10000) (hn : ls.length ≤ 100000) :
    Calls Tryd.prog 49 #[.pointer (some ⟨R, 0, none⟩), .string s] w (SetRes B w R M num a ls (settingB num a ls s.data.toList)) := by
  have hlen : s.data.toList.length = s.size := by simp
  have hBw : B ≤ w.heap.size := h.base
  have HS := Lib.hid h
  have HT := Lib.hid hT
  have HI := Lib.hid hI
  have HC := Lib.hid (cutAt_any 61 s w (by omega) hI)
  rw [cutV_is] at HC
  have l1 := upTo_len 61 s.data.toList
  have l2 := after_len 61 s.data.toList
  have l3 := trimR_len (upTo 61 s.data.toList)
  have l4 := trimL_len (after 61 s.data.toList)
  obtain ⟨nm, hnm⟩ : ∃ nm, upTo 61 s.data.toList = nm := ⟨_, rfl⟩
  obtain ⟨tx, htx⟩ : ∃ tx, after 61 s.data.toList = tx := ⟨_, rfl⟩
  obtain ⟨eq, heq⟩ : ∃ eq, s.data.toList.contains 61 = eq := ⟨_, rfl⟩
  obtain ⟨res, hres⟩ : ∃ res, settingB num a ls s.data.toList = res := ⟨_, rfl⟩
  have HRES : Hid (res = if eq = true ∧ givenB ls (a ++ trimR nm) = false ∧ nameB (a ++ trimR nm) = true then (meantB (trimL tx)).map fun t => ⟨mkB (a ++ trimR nm), mkB t, num⟩ else none) := Lib.hid (by rw [← hres]; unfold settingB; rw [hnm, htx, heq])
  rw [hres]
  rw [hnm, htx, heq] at HC
  rw [hnm] at l1 l3
  rw [htx] at l2 l4
  have z1 : (mkB nm).size ≤ 8000 := by rw [len_mkB]; omega
  have HTR : Hid (∀ w1, Calls Tryd.prog 68 #[.string (mkB nm), .string ⟨#[32, 9]⟩] w1 fun e w' => e = .returned (.string (mkB (trimR nm))) ∧ Below w1.heap.size w1 w') := Lib.hid fun w1 => by
    have := trimR_any (mkB nm) w1 (by omega)
    rw [mkB_data] at this
    exact this
  have HTL : Hid (∀ w1, Calls Tryd.prog 70 #[.string (mkB tx), .string ⟨#[32, 9]⟩] w1 fun e w' => e = .returned (.string (mkB (trimL tx))) ∧ Below w1.heap.size w1 w') := Lib.hid fun w1 => by
    have := trimL_any (mkB tx) w1
    rw [mkB_data] at this
    exact this
  have HJ : Hid (mkB a ++ mkB (trimR nm) = mkB (a ++ trimR nm)) := Lib.hid (mkB_join _ _)
  have zj : ¬ 9223372036854775807 < (mkB a).size + (mkB (trimR nm)).size := by rw [len_mkB, len_mkB]; omega
  have zw : (mkB (a ++ trimR nm)).size ≤ 20000 := by rw [len_mkB, List.length_append]; omega
  have zt : (mkB (trimL tx)).size ≤ 8000 := by rw [len_mkB]; omega
  have HADD : Hid (∀ w1, SetM w1 M (namesL ls) → Below w.heap.size w w1 → Calls Tryd.prog 35 #[.map (some M), .string (mkB a ++ mkB (trimR nm))] w1 (AddRes w1 M (namesL ls) (a ++ trimR nm))) := Lib.hid fun w1 h1 hb => by
    have := nadd_any (mkB (a ++ trimR nm)) M (namesL ls) w1 h1 (hT.below hb) (by omega) (by unfold namesL; rw [List.length_map]; omega)
    rw [mkB_data] at this
    rw [HJ.out]
    exact this
  have HME : Hid (∀ w1, w1.cell? ⟨R, 0, none⟩ = some (.int .i64 num) → Calls Tryd.prog 69 #[.pointer (some ⟨R, 0, none⟩), .string (mkB (trimL tx))] w1 fun e w' => e = meantE num (meantB (trimL tx)) ∧ Below w1.heap.size w1 w') := Lib.hid fun w1 h1 => by
    have := meant_any R num (mkB (trimL tx)) w1 h1 (by omega)
    rw [mkB_data] at this
    exact this
  have HGN : Hid ((namesL ls).contains (a ++ trimR nm) = givenB ls (a ++ trimR nm)) := Lib.hid (given_names _ _)
  have HOK : Hid (∀ w1, w1.cell? ⟨R, 0, none⟩ = some (.int .i64 num) → Calls Tryd.prog 65 #[.pointer (some ⟨R, 0, none⟩), .bool true] w1 fun e w' => e = .returned (.tuple #[]) ∧ Below w1.heap.size w1 w') := Lib.hid fun w1 h1 => rmust_ok R num w1 h1
  have HNO : Hid (∀ w1, w1.cell? ⟨R, 0, none⟩ = some (.int .i64 num) → Calls Tryd.prog 65 #[.pointer (some ⟨R, 0, none⟩), .bool false] w1 fun e w' => e = bad num ∧ Below w1.heap.size w1 w') := Lib.hid fun w1 h1 => rmust_no R num w1 h1
  have HBW := Lib.hid hBw
  clear h hT hI hlen hnm htx heq hres l1 l2 l3 l4 z1 hBw
  obtain ⟨aB, haB⟩ : ∃ aB, mkB a = aB := ⟨_, rfl⟩
  obtain ⟨tB, htB⟩ : ∃ tB, mkB (trimR nm) = tB := ⟨_, rfl⟩
  have HAB := Lib.hid haB
  rw [haB, htB] at HJ zj
  rw [haB, htB] at HADD
  rw [htB] at HTR
  generalize mkB nm = nB at *
  generalize mkB tx = xB at *
  generalize mkB (trimL tx) = lB at *
  clear haB htB
  go_enter Tryd.func49, Tryd.ntmps49
  go_wp2_with fail
  refine HC.out.mono ?_
  rintro e w1 ⟨rfl, hb1⟩
  have HB1 := Lib.hid hb1
  have c1 : w1.cell? ⟨R, 1, none⟩ = some (.string aB) := by rw [← HAB.out]; exact (HS.out.below hb1).rd.c1
  clear hb1 HC
  go_wp2_with fail
  go_region_held3 (fun w' => w'.cell? ⟨R, 1, none⟩ = some (.string aB)) (first | exact c1 | exact c2)
    (first | (go_at_call 68; (with_reducible refine (HTR.out _).mono ?_); rintro e w2 ⟨rfl, hb2⟩; have HB2 := Lib.hid (HB1.out.trans (((below_drewN w1 1).trans hb2).mono HB1.out.size)); have c2 : w2.cell? ⟨R, 1, none⟩ = some (.string aB) := by rw [← HAB.out]; exact (HS.out.below HB2.out).rd.c1))
  clear c1 c2 HTR
  have HS2 := Lib.hid (HS.out.below HB2.out)
  have m0 : w2.cell? ⟨R, 2, none⟩ = some (.map (some M)) := HS2.out.rd.c2
  cases eq with
  | false =>
    have HE : Hid (res = none) := Lib.hid (by rw [HRES.out, if_neg (fun h => by cases h.1)])
    go_wp2_with fail
    refine (HNO.out _ HS2.out.rd.c0).mono ?_
    rintro e w3 ⟨rfl, hb3⟩
    rw [HE.out]
    exact ⟨rfl, rfl, fr_of ((HB2.out.trans (hb3.mono HB2.out.size)).mono HBW.out)⟩
  | true =>
    go_wp2_with fail
    refine (HADD.out _ HS2.out.set HB2.out).mono ?_
    rintro e w3 ⟨rfl, hbM, hset⟩
    obtain ⟨hrd, hst, hrow, hbB⟩ := HS2.out.named hbM hset
    have HB3 : Hid (Fr B R M w w3) := Lib.hid ((fr_of (HB2.out.mono HBW.out)).trans hbB)
    rw [HGN.out] at hst ⊢
    have HRD := Lib.hid hrd
    have HST := Lib.hid hst
    have HRW := Lib.hid hrow
    clear hbM hset hrd hst hrow hbB m0
    by_cases hok : givenB ls (a ++ trimR nm) = false ∧ nameB (a ++ trimR nm) = true
    · rw [show (!givenB ls (a ++ trimR nm) && nameB (a ++ trimR nm)) = true by rw [hok.1, hok.2]; rfl]
      rw [if_pos hok] at HST
      have HRE2 : Hid (res = (meantB (trimL tx)).map fun t => ⟨mkB (a ++ trimR nm), mkB t, num⟩) := Lib.hid (by rw [HRES.out, if_pos ⟨by first | rfl | trivial, hok⟩])
      clear hok
      go_wp2_with fail
      refine (HOK.out _ HRD.out.c0).mono ?_
      rintro e w4 ⟨rfl, hb4⟩
      have HB4 := Lib.hid hb4
      clear hb4
      go_wp2_with fail
      refine (HTL.out _).mono ?_
      rintro e w5 ⟨rfl, hb5⟩
      have HB5 := Lib.hid (HB4.out.trans (hb5.mono HB4.out.size))
      clear hb5 HB4
      go_wp2_with fail
      refine (HME.out _ (HRD.out.below HB5.out).c0).mono ?_
      cases hm : meantB (trimL tx) with
      | none =>
        have HE : Hid (res = none) := Lib.hid (by rw [HRE2.out, hm]; rfl)
        rintro e w6 ⟨rfl, hb6⟩
        rw [HE.out]
        exact ⟨by first | rfl | trivial, by first | rfl | trivial, HB3.out.trans (fr_of ((HB5.out.trans (hb6.mono HB5.out.size)).mono (Nat.le_trans HBW.out HB3.out.size)))⟩
      | some u =>
        have HE : Hid (res = some ⟨mkB (a ++ trimR nm), mkB u, num⟩) := Lib.hid (by rw [HRE2.out, hm]; rfl)
        rintro e w6 ⟨rfl, hb6⟩
        have HB6 := Lib.hid (HB5.out.trans (hb6.mono HB5.out.size))
        clear hb6 HB5 HRE2 HTL HME HOK HNO HADD
        have zu : (mkB u).size ≤ 200 := by
          rw [len_mkB]
          have : meantB (trimL tx) = some u := hm
          exact meant_len this
        obtain ⟨uB, huB⟩ : ∃ uB, mkB u = uB := ⟨_, rfl⟩
        rw [huB] at zu HE
        unfold meantE
        simp only
        rw [huB]
        have hrd6 := HRD.out.below HB6.out
        have HR6 := Lib.hid hrd6
        have HSA := Lib.hid HS.out
        have c0 : w6.cell? ⟨R, 0, none⟩ = some (.int .i64 num) := hrd6.c0
        have c3 : w6.cell? ⟨R, 3, none⟩ = some v := hrd6.c3
        obtain ⟨i0, hi, hz0, hz1, hz2⟩ := info_parts infoLine
        have HI0 := Lib.hid (And.intro hi (And.intro hz0 (And.intro hz1 hz2)))
        have zs : (aB ++ tB).size ≤ 281474976710656 := by rw [HJ.out]; omega
        have zs2 : uB.size ≤ 281474976710656 := by omega
        have HRW6 : Hid (w6.ownsRow B 35 3 v ls.length (flatL ls)) := Lib.hid (HRW.out.kept (grown_of_below HB6.out none) (by cases h2 : v.ownBlock with | none => exact Or.inl rfl | some _ => exact Or.inr (by simp)))
        have HST7 : Hid (SetM w6 M (namesL ls ++ [(⟨aB ++ tB, uB, num⟩ : LineV).name.data.toList])) := Lib.hid (by
          have h := HST.out.below HB6.out
          rw [show (⟨aB ++ tB, uB, num⟩ : LineV).name.data.toList = a ++ trimR nm by show (aB ++ tB).data.toList = _; rw [HJ.out, mkB_data]]
          exact h)
        clear hm hrd6 hi hz0 hz1 hz2 huB
        go_wp2_with fail
        go_region_law (first
          | (go_simp; (with_reducible refine (clone_any (aB ++ tB) _ zs).mono ?_); rintro e w7 ⟨rfl, hb7⟩; have H7 := Lib.hid ((below_drewN w6 1).trans hb7); have d0 := (HR6.out.below H7.out).c0; have d3 := (HR6.out.below H7.out).c3; dsimp only)
          | (go_simp; (with_reducible refine (clone_any uB _ zs2).mono ?_); rintro e w8 ⟨rfl, hb8⟩; have H8 := Lib.hid (H7.out.trans (hb8.mono H7.out.size)); have e0 := (HR6.out.below H8.out).c0; have e3 := (HR6.out.below H8.out).c3; have g3 : ∀ o, (w8.alloc o).cell? ⟨R, 3, none⟩ = some v := fun o => ((HR6.out.below H8.out).below (below_one w8 o)).c3; dsimp only)
          | (refine step_line rfl _ _ rfl (set_row HRW6.out H8.out) (set_base HBW.out HB3.out HB6.out H8.out (Below.refl _ _)) (by omega) rfl ⟨aB ++ tB, uB, num⟩ rfl ?_; intro g cap w9 h1 h2 h3; have h8 := HR6.out.below H8.out; have HF := Lib.hid (set_fin HSA.out.hne HSA.out.r1 HSA.out.r2 h8 (HST7.out.below H8.out) h1 h2 h3 (set_base HBW.out HB3.out HB6.out H8.out (Below.refl _ _)) (fun k hk => (HRW6.out.lt k hk).1)); have q3 := (h2.cell (a := ⟨R, 3, none⟩) ((h8.below (below_one w8 _)).c3) (fun e => HSA.out.r1 e.symm)); have q4 := set_frozen h8 h2 HSA.out.r1; clear h1 h2 h3 h8))
        all_goals
          go_wp2
          go_end0
          rw [HE.out]
          exact ⟨rfl, HB3.out.trans ((fr_of ((HB6.out.trans (H8.out.mono HB6.out.size)).mono (Nat.le_trans HBW.out HB3.out.size))).trans HF.out.2), _, by rw [← HJ.out]; exact HF.out.1⟩
    · rw [show (!givenB ls (a ++ trimR nm) && nameB (a ++ trimR nm)) = false by
        cases hg : givenB ls (a ++ trimR nm) with
        | true => rfl
        | false => cases hnb : nameB (a ++ trimR nm) with
          | false => rfl
          | true => exact absurd ⟨hg, hnb⟩ hok]
      have HE : Hid (res = none) := Lib.hid (by rw [HRES.out, if_neg (fun h => hok h.2)])
      clear hok
      go_wp2_with fail
      refine (HNO.out _ HRD.out.c0).mono ?_
      rintro e w4 ⟨rfl, hb4⟩
      rw [HE.out]
      exact ⟨rfl, rfl, HB3.out.trans (fr_of (hb4.mono (Nat.le_trans HBW.out HB3.out.size)))⟩
end Go.Proofs.YtbpbiakdigjcnaaDoor
