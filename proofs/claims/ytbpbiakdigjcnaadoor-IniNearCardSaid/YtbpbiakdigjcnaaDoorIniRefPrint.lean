/-
  The walk of the document's own Print.
-/
import Derived.Test.YtbpbiakdigjcnaaDoorIniPrint
import Derived.Deep.RegionHeld3
namespace Go.Proofs.YtbpbiakdigjcnaaDoor
open Go.ChangeShapes Go.WideShapes Go.ChangeAt Go.RowKit

theorem elemLn : Tryd.prog.underlying 27 = some (.slice (Tryd.prog.elem 27)) := by kernel_rfl
theorem sizeLn (w : World) : (sizeOf (Tryd.prog.elem 27)).run Tryd.prog w = .ok 3 w := by kernel_rfl
/-- What 'l[:k]' is. -/
theorem slice_to (b off n c k : Nat) (hk : k ≤ c) (W : World) : (Instr.slice 27 (.slice (some ⟨b, off, none⟩) n c) none (some (.int .i64 (k : Int))) none).run Tryd.prog W = .ok (.slice (some ⟨b, off, none⟩) k c) W := by
  rw [run_slice_h W _ _ _ _ elemLn .i64 (k : Int) (by omega) (by omega), sizeLn]
  show Result.ok (sliced _ _ _ _ _) W = _
  unfold sliced
  congr 2
  split
  · rfl
  · simp [Addr.add]
theorem Lns.take {w : World} {x : Option Addr} {ls : List LineV} (h : Lns w x ls) (k : Nat) : Lns w x (ls.take k) := fun i hi => by
  rw [List.length_take] at hi
  obtain ⟨b, off, e, hl, hc⟩ := h i (by omega)
  exact ⟨b, off, e, hl, by rw [List.getElem_take]; exact hc⟩
theorem Own8.more {w0 w w' : World} {v v' : Value} {b b' : List UInt8} (h : Own8 w0 w v b) (ho : w'.ownsRow w0.heap.size 5 1 v' b'.length (b'.map b8)) (hg : w.grownBy w' v.ownBlock) : Own8 w0 w' v' b' :=
  ⟨ho, h.below.grown hg h.below.size (fun k hk => (h.own.lt k hk).1)⟩
theorem prn_some {w w' : World} {b : List UInt8} {r : Option (List UInt8)} (h : r = some b) (hb : Below w.heap.size w w') : PrnRes w r (.returned (.tuple #[.string (mkB b), .int .i64 0])) w' := by subst h; exact ⟨rfl, hb⟩
theorem prn_none {w w' : World} {r : Option (List UInt8)} (h : r = none) (hb : Below w.heap.size w w') : PrnRes w r (.returned (.tuple #[.string ⟨#[]⟩, .int .i64 1])) w' := by subst h; exact ⟨rfl, hb⟩
set_option maxHeartbeats 3200000 in
set_option maxRecDepth 100000 in
theorem refPrint_any (x : Option Addr) (c : Nat) (ls : List LineV) (w : World) (h : Lns w x ls) (hn : ls.length ≤ 4294967280) (hc : ls.length ≤ c) (hF : Fit ls) :
    Calls Tryd.prog 12 #[.slice x ls.length c] w (PrnRes w (printF ls)) := by
  obtain ⟨r, hr⟩ : ∃ r, printF ls = r := ⟨_, rfl⟩
  have HR0 : Hid (printGo [] [] (ls.drop 0) = r) := Lib.hid hr
  rw [hr]
  have HL := Lib.hid h
  have HFF := Lib.hid hF
  obtain ⟨n, hn'⟩ : ∃ n, ls.length = n := ⟨_, rfl⟩
  have HN := Lib.hid hn'
  rw [hn'] at hn hc ⊢
  have H0 : Hid (Own8 w w (.slice none 0 0) []) := Lib.hid (Own8.nil_ w)
  have HNE : Hid (∀ W, r = none → Below w.heap.size w W → PrnRes w r (.returned (.tuple #[.string ⟨#[]⟩, .int .i64 1])) W) := Lib.hid fun W h hb => prn_none h hb
  have HSO : Hid (∀ W b, r = some b → Below w.heap.size w W → PrnRes w r (.returned (.tuple #[.string (mkB b), .int .i64 0])) W) := Lib.hid fun W b h hb => prn_some h hb
  clear h hr hn' hF
  go_enter Tryd.func12, Tryd.ntmps12
  go_wp2
  go_loopw [4, 5] (fun u i wr => ∃ (t : Nat) (b : List UInt8) (v : Value), v = u ∧ i = .int .i64 t ∧ t ≤ n ∧ b.length ≤ 8000 ∧ Hid (Own8 w wr v b) ∧ Hid (printGo (ls.take t) b (ls.drop t) = r)) (fun _ i _ => n - (intOf i).toNat)
  case atStart => exact ⟨0, [], _, rfl, rfl, by omega, by simp, H0, HR0⟩
  case round =>
    clear H0 HR0
    obtain ⟨t, b, v, rfl, rfl, ht, hbl, HO, HR⟩ := hrel
    by_cases hlt : t < n
    · have htx : t < ls.length := by rw [HN.out]; exact hlt
      have HLW := Lib.hid (HL.out.below HO.out.below)
      obtain ⟨bx, off, hxe, hxl, c0, c1, c2⟩ := HLW.out t htx
      have HD := Lib.hid (List.drop_eq_getElem_cons htx)
      have HTK := Lib.hid (List.take_succ_eq_append_getElem htx)
      have hfit := HFF.out _ (List.getElem_mem htx)
      generalize ls[t] = l at c0 c1 c2 HD HTK hfit
      obtain ⟨lm, lt, ln⟩ := l
      simp only at c0 c1 c2 hfit
      obtain ⟨hf1, hf2⟩ := hfit
      have q2 : (0 : Int) ≤ t := by omega
      have q3 : (t : Int) < n := by omega
      subst hxe
      have HIN : Hid (∀ W, Calls Tryd.prog 20 #[.string lm] W fun e w' => e = .returned (.bool (nameB lm.data.toList)) ∧ W = w') := Lib.hid fun W => refIsName_any lm W (by omega)
      have hsl := fun W => slice_to bx off n c t (by omega) W
      have htl : (ls.take t).length = t := by rw [List.length_take]; omega
      have HTH : Hid (Calls Tryd.prog 21 #[.slice (some ⟨bx, off, none⟩) t c, .string lm] wr.drew fun e w' => e = .returned (.bool (givenB (ls.take t) lm.data.toList)) ∧ wr.drew = w') := Lib.hid (by
        have h := there_any (some ⟨bx, off, none⟩) c (ls.take t) lm wr.drew ((HLW.out.take t).below (below_drewN wr 1)) (by omega)
        rw [htl] at h
        exact h)
      have HOD := Lib.hid HO.out.drew
      have HPG : Hid (∀ R, printGo (ls.take t) b (⟨lm, lt, ln⟩ :: ls.drop (t + 1)) = R → r = R) := Lib.hid fun R h => by rw [← HR.out, HD.out, h]
      have HTL : Hid (lt.data.toList.length = lt.size) := Lib.hid (by simp)
      clear c2 HD HR htl htx HLW
      go_wp2_with fail
      refine (HIN.out _).mono ?_
      rintro e w' ⟨rfl, rfl⟩
      go_wp2_with fail
      go_region_held3 (fun w' => w'.cell? ⟨bx, off + t * 3, none⟩ = some (.string lm)) (first | exact c0)
        (first | (go_at_call 21; (with_reducible refine HTH.out.mono ?_); rintro e w' ⟨rfl, rfl⟩))
      have d1 : wr.drew.cell? ⟨bx, off + t * 3 + 1, none⟩ = some (.string lt) := c1
      cases hnb : nameB lm.data.toList with
      | false =>
        have HE := Lib.hid (HPG.out none (by rw [printGo, if_neg (fun h => by have := h.2.1; simp only at this; rw [hnb] at this; cases this)]))
        have HF := Lib.hid (HNE.out _ HE.out HOD.out.below)
        clear hnb
        go_wp2
        go_ret2
        exact HF.out
      | true =>
        cases hgb : givenB (ls.take t) lm.data.toList with
        | true =>
          have HE := Lib.hid (HPG.out none (by rw [printGo, if_neg (fun h => by have := h.1; simp only at this; rw [hgb] at this; cases this)]))
          have HF := Lib.hid (HNE.out _ HE.out HOD.out.below)
          clear hnb hgb
          go_wp2
          go_ret2
          exact HF.out
        | false =>
          by_cases h200 : lt.size ≤ 200
          · have q4 : ¬ 200 < (lt.size : Int) := by omega
            have HOK := Lib.hid (And.intro hgb (And.intro hnb h200))
            have HBA : Hid (∀ W, Calls Tryd.prog 22 #[.string lt] W fun e w' => e = .returned (.bool (bareB lt.data.toList)) ∧ W = w') := Lib.hid fun W => bare_any lt W (by unfold maxLen; omega)
            have HTR : Hid (∀ W, Calls Tryd.prog 23 #[.string lt] W fun e w' => e = .returned (.string (mkB (trimB lt.data.toList))) ∧ W = w') := Lib.hid fun W => trimmed_any lt W (by omega)
            have HQU : Hid (∀ W, Calls Tryd.prog 24 #[.string lt] W fun e w' => e = .returned (.string (mkB (quoteL lt.data.toList))) ∧ Below W.heap.size W w') := Lib.hid fun W => refQuote_any lt W (by omega)
            have hst : standL lt.data.toList = if lt.data.toList ≠ [] ∧ trimB lt.data.toList = lt.data.toList ∧ bareB lt.data.toList = true then lt.data.toList else quoteL lt.data.toList := rfl
            have hsz := standL_len lt.data.toList
            have hlz := HTL.out
            -- what is laid down, whichever way
            have HNX : Hid (∀ SB, mkB (standL lt.data.toList) = SB → SB.size ≤ 1000 ∧ ∃ E nb, E = ((lm ++ (⟨#[32, 61, 32]⟩ : ByteArray)) ++ SB) ++ (⟨#[10]⟩ : ByteArray) ∧ E.size ≤ lm.size + 1100 ∧ (b ++ E.data.toList).length = nb ∧ ∀ R, (if nb ≤ 8000 then printGo (ls.take (t + 1)) (b ++ E.data.toList) (ls.drop (t + 1)) else none) = R → r = R) := Lib.hid (by
              rintro SB rfl
              have hEd : (((lm ++ (⟨#[32, 61, 32]⟩ : ByteArray)) ++ mkB (standL lt.data.toList)) ++ (⟨#[10]⟩ : ByteArray)).data.toList = entryL ⟨lm, lt, ln⟩ := by unfold entryL; simp [mkB_data]
              refine ⟨by rw [len_mkB]; omega, _, _, rfl, ?_, rfl, fun R h => HPG.out R ?_⟩
              · have h3 : (⟨#[32, 61, 32]⟩ : ByteArray).size = 3 := rfl
                have h1 : (⟨#[10]⟩ : ByteArray).size = 1 := rfl
                rw [ByteArray.size_append, ByteArray.size_append, ByteArray.size_append, len_mkB]
                omega
              · rw [hEd] at h
                rw [printGo, ← h, HTK.out]
                by_cases h8 : (b ++ entryL ⟨lm, lt, ln⟩).length ≤ 8000
                · rw [if_pos h8, if_pos ⟨HOK.out.1, HOK.out.2.1, HOK.out.2.2, h8⟩]
                · rw [if_neg h8, if_neg (fun h => h8 h.2.2.2)])
            clear hnb hgb HPG h200 hsz hlz
            by_cases hba : bareB lt.data.toList = true
            · rw [hba] at HBA
              by_cases he0 : lt.size = 0
              · have hle := empty_bytes he0
                have HX := HNX.out (mkB (quoteL lt.data.toList)) (by rw [hst, if_neg (fun h => h.1 (by rw [hle]))])
                have d0 : lt.toList.isEmpty = true := by rw [toList_eq, hle]; rfl
                clear hst hle he0 hba
                obtain ⟨SB, hSB⟩ : ∃ SB, mkB (quoteL lt.data.toList) = SB := ⟨_, rfl⟩
                rw [hSB] at HX HQU
                obtain ⟨zs, E, nb, hE, hEs, hnb, hPG⟩ := HX
                have HEE := Lib.hid hE
                have HNB := Lib.hid hnb
                have HPG2 := Lib.hid hPG
                have zj1 : ¬ 9223372036854775807 < lm.size + 3 := by omega
                have zj2 : ¬ 9223372036854775807 < lm.size + 3 + SB.size := by omega
                have zj3 : ¬ 9223372036854775807 < lm.size + 3 + SB.size + 1 := by omega
                clear hE hnb hPG hSB
                go_wp2_with fail
                refine (HBA.out _).mono ?_
                rintro e w' ⟨rfl, rfl⟩
                go_wp2_with fail
                refine (HQU.out _).mono ?_
                rintro e W4 ⟨rfl, hb4⟩
                have HO4 := Lib.hid (HOD.out.after hb4)
                have k0 : W4.cell? ⟨bx, off + t * 3, none⟩ = some (.string lm) := (hb4.cell (p := ⟨bx, off + t * 3, none⟩) hxl).trans c0
                clear hb4
                by_cases h8 : nb ≤ 8000
                · have q5 : ¬ 8000 < (nb : Int) := by omega
                  have HRN := Lib.hid (HPG2.out _ (if_pos h8))
                  go_wp2_with (at_builtin; refine appendS rfl _ _ rfl HO4.out.own HO4.out.below.size rfl _ rfl (by rw [← HEE.out]; omega) ?_; intro v5 W5 h1 h2; rw [← HEE.out] at h1; obtain ⟨xa, xc, hv5⟩ := own_slice h1; rw [HNB.out] at hv5; subst hv5; have HO5 := Lib.hid (HO4.out.more h1 h2); clear h1 h2)
                  go_roundw
                  case rel => exact ⟨t + 1, b ++ E.data.toList, _, rfl, by go_num, by omega, by rw [HNB.out]; exact h8, HO5, Lib.hid HRN.out.symm⟩
                  case measure => simp [intOf]; omega
                · have q5 : 8000 < (nb : Int) := by omega
                  have HE := Lib.hid (HPG2.out none (if_neg h8))
                  go_wp2_with (at_builtin; refine appendS rfl _ _ rfl HO4.out.own HO4.out.below.size rfl _ rfl (by rw [← HEE.out]; omega) ?_; intro v5 W5 h1 h2; rw [← HEE.out] at h1; obtain ⟨xa, xc, hv5⟩ := own_slice h1; rw [HNB.out] at hv5; subst hv5; have HO5 := Lib.hid (HO4.out.more h1 h2); clear h1 h2)
                  go_ret2
                  exact HNE.out _ HE.out HO5.out.below
              · have hne : lt.data.toList ≠ [] := fun e => he0 (by rw [show lt.size = lt.data.toList.length from by simp, e]; rfl)
                have d0 := nonempty_list lt (by omega)
                by_cases htt : trimB lt.data.toList = lt.data.toList
                · have HX := HNX.out lt (by rw [hst, if_pos ⟨hne, htt, hba⟩, mkB_self])
                  have hT : mkB (trimB lt.data.toList) = lt := by rw [htt, mkB_self]
                  rw [hT] at HTR
                  have d5 : (lt.toList != lt.toList) = false := by simp
                  clear hst hne htt hba hT he0
                  obtain ⟨zs, E, nb, hE, hEs, hnb, hPG⟩ := HX
                  have HEE := Lib.hid hE
                  have HNB := Lib.hid hnb
                  have HPG2 := Lib.hid hPG
                  have zj1 : ¬ 9223372036854775807 < lm.size + 3 := by omega
                  have zj2 : ¬ 9223372036854775807 < lm.size + 3 + lt.size := by omega
                  have zj3 : ¬ 9223372036854775807 < lm.size + 3 + lt.size + 1 := by omega
                  have k0 : wr.drew.cell? ⟨bx, off + t * 3, none⟩ = some (.string lm) := c0
                  clear hE hnb hPG
                  go_wp2_with fail
                  refine (HBA.out _).mono ?_
                  rintro e w' ⟨rfl, rfl⟩
                  go_wp2_with fail
                  refine (HTR.out _).mono ?_
                  rintro e w' ⟨rfl, rfl⟩
                  by_cases h8 : nb ≤ 8000
                  · have q5 : ¬ 8000 < (nb : Int) := by omega
                    have HRN := Lib.hid (HPG2.out _ (if_pos h8))
                    go_wp2_with (at_builtin; refine appendS rfl _ _ rfl HOD.out.own HOD.out.below.size rfl _ rfl (by rw [← HEE.out]; omega) ?_; intro v5 W5 h1 h2; rw [← HEE.out] at h1; obtain ⟨xa, xc, hv5⟩ := own_slice h1; rw [HNB.out] at hv5; subst hv5; have HO5 := Lib.hid (HOD.out.more h1 h2); clear h1 h2)
                    go_roundw
                    case rel => exact ⟨t + 1, b ++ E.data.toList, _, rfl, by go_num, by omega, by rw [HNB.out]; exact h8, HO5, Lib.hid HRN.out.symm⟩
                    case measure => simp [intOf]; omega
                  · have q5 : 8000 < (nb : Int) := by omega
                    have HE := Lib.hid (HPG2.out none (if_neg h8))
                    go_wp2_with (at_builtin; refine appendS rfl _ _ rfl HOD.out.own HOD.out.below.size rfl _ rfl (by rw [← HEE.out]; omega) ?_; intro v5 W5 h1 h2; rw [← HEE.out] at h1; obtain ⟨xa, xc, hv5⟩ := own_slice h1; rw [HNB.out] at hv5; subst hv5; have HO5 := Lib.hid (HOD.out.more h1 h2); clear h1 h2)
                    go_ret2
                    exact HNE.out _ HE.out HO5.out.below
                · have HX := HNX.out (mkB (quoteL lt.data.toList)) (by rw [hst, if_neg (fun h => htt h.2.1)])
                  have d5 : ((mkB (trimB lt.data.toList)).toList == lt.toList) = false := beq_eq_false_iff_ne.2 (fun e => htt (by rw [toList_eq, toList_eq, mkB_data] at e; exact e))
                  obtain ⟨T, hT⟩ : ∃ T, mkB (trimB lt.data.toList) = T := ⟨_, rfl⟩
                  rw [hT] at HTR d5
                  clear hst hne htt hba hT he0
                  obtain ⟨SB, hSB⟩ : ∃ SB, mkB (quoteL lt.data.toList) = SB := ⟨_, rfl⟩
                  rw [hSB] at HX HQU
                  obtain ⟨zs, E, nb, hE, hEs, hnb, hPG⟩ := HX
                  have HEE := Lib.hid hE
                  have HNB := Lib.hid hnb
                  have HPG2 := Lib.hid hPG
                  have zj1 : ¬ 9223372036854775807 < lm.size + 3 := by omega
                  have zj2 : ¬ 9223372036854775807 < lm.size + 3 + SB.size := by omega
                  have zj3 : ¬ 9223372036854775807 < lm.size + 3 + SB.size + 1 := by omega
                  clear hE hnb hPG hSB
                  go_wp2_with fail
                  refine (HBA.out _).mono ?_
                  rintro e w' ⟨rfl, rfl⟩
                  go_wp2_with fail
                  refine (HTR.out _).mono ?_
                  rintro e w' ⟨rfl, rfl⟩
                  go_wp2_with fail
                  refine (HQU.out _).mono ?_
                  rintro e W4 ⟨rfl, hb4⟩
                  have HO4 := Lib.hid (HOD.out.after hb4)
                  have k0 : W4.cell? ⟨bx, off + t * 3, none⟩ = some (.string lm) := (hb4.cell (p := ⟨bx, off + t * 3, none⟩) hxl).trans c0
                  clear hb4
                  by_cases h8 : nb ≤ 8000
                  · have q5 : ¬ 8000 < (nb : Int) := by omega
                    have HRN := Lib.hid (HPG2.out _ (if_pos h8))
                    go_wp2_with (at_builtin; refine appendS rfl _ _ rfl HO4.out.own HO4.out.below.size rfl _ rfl (by rw [← HEE.out]; omega) ?_; intro v5 W5 h1 h2; rw [← HEE.out] at h1; obtain ⟨xa, xc, hv5⟩ := own_slice h1; rw [HNB.out] at hv5; subst hv5; have HO5 := Lib.hid (HO4.out.more h1 h2); clear h1 h2)
                    go_roundw
                    case rel => exact ⟨t + 1, b ++ E.data.toList, _, rfl, by go_num, by omega, by rw [HNB.out]; exact h8, HO5, Lib.hid HRN.out.symm⟩
                    case measure => simp [intOf]; omega
                  · have q5 : 8000 < (nb : Int) := by omega
                    have HE := Lib.hid (HPG2.out none (if_neg h8))
                    go_wp2_with (at_builtin; refine appendS rfl _ _ rfl HO4.out.own HO4.out.below.size rfl _ rfl (by rw [← HEE.out]; omega) ?_; intro v5 W5 h1 h2; rw [← HEE.out] at h1; obtain ⟨xa, xc, hv5⟩ := own_slice h1; rw [HNB.out] at hv5; subst hv5; have HO5 := Lib.hid (HO4.out.more h1 h2); clear h1 h2)
                    go_ret2
                    exact HNE.out _ HE.out HO5.out.below
            · have hbf : bareB lt.data.toList = false := by simpa using hba
              rw [hbf] at HBA
              have HX := HNX.out (mkB (quoteL lt.data.toList)) (by rw [hst, if_neg (fun h => hba h.2.2)])
              clear hst hba hbf
              obtain ⟨SB, hSB⟩ : ∃ SB, mkB (quoteL lt.data.toList) = SB := ⟨_, rfl⟩
              rw [hSB] at HX HQU
              obtain ⟨zs, E, nb, hE, hEs, hnb, hPG⟩ := HX
              have HEE := Lib.hid hE
              have HNB := Lib.hid hnb
              have HPG2 := Lib.hid hPG
              have zj1 : ¬ 9223372036854775807 < lm.size + 3 := by omega
              have zj2 : ¬ 9223372036854775807 < lm.size + 3 + SB.size := by omega
              have zj3 : ¬ 9223372036854775807 < lm.size + 3 + SB.size + 1 := by omega
              clear hE hnb hPG hSB
              go_wp2_with fail
              refine (HBA.out _).mono ?_
              rintro e w' ⟨rfl, rfl⟩
              go_wp2_with fail
              refine (HQU.out _).mono ?_
              rintro e W4 ⟨rfl, hb4⟩
              have HO4 := Lib.hid (HOD.out.after hb4)
              have k0 : W4.cell? ⟨bx, off + t * 3, none⟩ = some (.string lm) := (hb4.cell (p := ⟨bx, off + t * 3, none⟩) hxl).trans c0
              clear hb4
              by_cases h8 : nb ≤ 8000
              · have q5 : ¬ 8000 < (nb : Int) := by omega
                have HRN := Lib.hid (HPG2.out _ (if_pos h8))
                go_wp2_with (at_builtin; refine appendS rfl _ _ rfl HO4.out.own HO4.out.below.size rfl _ rfl (by rw [← HEE.out]; omega) ?_; intro v5 W5 h1 h2; rw [← HEE.out] at h1; obtain ⟨xa, xc, hv5⟩ := own_slice h1; rw [HNB.out] at hv5; subst hv5; have HO5 := Lib.hid (HO4.out.more h1 h2); clear h1 h2)
                go_roundw
                case rel => exact ⟨t + 1, b ++ E.data.toList, _, rfl, by go_num, by omega, by rw [HNB.out]; exact h8, HO5, Lib.hid HRN.out.symm⟩
                case measure => simp [intOf]; omega
              · have q5 : 8000 < (nb : Int) := by omega
                have HE := Lib.hid (HPG2.out none (if_neg h8))
                go_wp2_with (at_builtin; refine appendS rfl _ _ rfl HO4.out.own HO4.out.below.size rfl _ rfl (by rw [← HEE.out]; omega) ?_; intro v5 W5 h1 h2; rw [← HEE.out] at h1; obtain ⟨xa, xc, hv5⟩ := own_slice h1; rw [HNB.out] at hv5; subst hv5; have HO5 := Lib.hid (HO4.out.more h1 h2); clear h1 h2)
                go_ret2
                exact HNE.out _ HE.out HO5.out.below
          · have q4 : 200 < (lt.size : Int) := by omega
            have HE := Lib.hid (HPG.out none (by rw [printGo, if_neg (fun h => h200 h.2.2.1)]))
            have HF := Lib.hid (HNE.out _ HE.out HOD.out.below)
            clear hnb hgb h200
            go_wp2
            go_ret2
            exact HF.out
    · have e : t = n := by omega
      subst e
      have q2 : ¬ (t : Int) < t := by omega
      have HE : Hid (r = some b) := Lib.hid (by rw [← HR.out, List.drop_eq_nil_of_le (by rw [HN.out]; omega)]; rfl)
      obtain ⟨xa, xc, hv⟩ := own_slice HO.out.own
      have hcv := HO.out.string 9 32 Tryd.underlying9 Tryd.underlying32 Tryd.underlying5
      have HF := Lib.hid (HSO.out _ b HE.out HO.out.below)
      subst hv
      go_wp2
      go_ret2
      exact HF.out
end Go.Proofs.YtbpbiakdigjcnaaDoor
