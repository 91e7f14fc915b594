/-
  The walk of package ini's written.
-/
import Derived.Test.YtbpbiakdigjcnaaDoorIniWrite
import Derived.Deep.RegionHeld3
namespace Go.Proofs.YtbpbiakdigjcnaaDoor
open Go.ChangeShapes Go.WideShapes Go.ChangeAt Go.RowKit

theorem SetM.noRow {w : World} {M : Nat} {l : List (List UInt8)} (h : SetM w M l) {B n size : Nat} {e : TypeId} {v : Value} {xs : List Value} (ho : w.ownsRow B e size v n xs) : v.ownBlock ≠ some M := by
  intro hv
  obtain ⟨es, clock, h1, _⟩ := h
  rcases ho.2 with ⟨rfl, _⟩ | ⟨g, cap, cur, rfl, _, hg, _⟩
  · cases hv
  · have : g = M := by simpa [Value.ownBlock] using hv
    subst this
    rw [h1] at hg
    cases hg
/-- What is printed so far. -/
structure WS (w0 wr : World) (M : Nat) (done : List LineV) (v : Value) (b : List UInt8) : Prop where
  set : SetM wr M (namesL done)
  own : wr.ownsRow w0.heap.size 5 1 v b.length (b.map b8)
  below : Below w0.heap.size w0 wr
  ge : w0.heap.size ≤ M
variable {w0 w w' : World} {M : Nat} {done : List LineV} {v : Value} {b : List UInt8}
theorem row8_kept {B n : Nat} {xs : List Value} (h : w.ownsRow B 5 1 v n xs) (hb : Below w.heap.size w w') : w'.ownsRow B 5 1 v n xs :=
  h.kept (grown_of_below hb none) (by cases h2 : v.ownBlock with | none => exact Or.inl rfl | some _ => exact Or.inr (by simp))
theorem WS.after (h : WS w0 w M done v b) (hb : Below w.heap.size w w') : WS w0 w' M done v b :=
  ⟨h.set.below hb, row8_kept h.own hb, h.below.trans (hb.mono h.below.size), h.ge⟩
theorem WS.named (h : WS w0 w M done v b) (hb : But M w w') {l : LineV} (hs : SetM w' M (namesL done ++ [l.name.data.toList])) : WS w0 w' M (done ++ [l]) v b :=
  ⟨by rw [show namesL (done ++ [l]) = namesL done ++ [l.name.data.toList] by unfold namesL; rw [List.map_append]; rfl]; exact hs, h.own.kept (grown_of_but hb) (Or.inr (h.set.noRow h.own)), h.below.trans (hb.below h.ge h.below.size), h.ge⟩
theorem WS.more {v' : Value} {b' : List UInt8} (h : WS w0 w M done v b) (ho : w'.ownsRow w0.heap.size 5 1 v' b'.length (b'.map b8)) (hg : w.grownBy w' v.ownBlock) : WS w0 w' M done v' b' :=
  ⟨h.set.same (hg.block M h.set.lt (fun e => h.set.noRow h.own e.symm)), ho, h.below.grown hg h.below.size (fun k hk => (h.own.lt k hk).1), h.ge⟩
/-- A line's own copy. -/
structure Cell3 (w : World) (L : Nat) (a b : ByteArray) : Prop where
  c0 : w.cell? ⟨L, 0, none⟩ = some (.string a)
  c1 : w.cell? ⟨L, 1, none⟩ = some (.string b)
theorem Cell3.below {L : Nat} {a b : ByteArray} (h : Cell3 w L a b) (hb : Below w.heap.size w w') : Cell3 w' L a b :=
  ⟨(hb.cell (p := ⟨L, 0, none⟩) (lt_of_cell h.c0)).trans h.c0, (hb.cell (p := ⟨L, 1, none⟩) (lt_of_cell h.c1)).trans h.c1⟩
theorem Cell3.but {L : Nat} {a b : ByteArray} (h : Cell3 w L a b) (hb : But M w w') {l : List (List UInt8)} (hs : SetM w M l) : Cell3 w' L a b := by
  have hn : L ≠ M := fun e => by
    subst e
    obtain ⟨es, clock, h1, _⟩ := hs
    have := h.c0
    simp [World.cell?, h1] at this
  exact ⟨(hb.cell (p := ⟨L, 0, none⟩) (lt_of_cell h.c0) hn).trans h.c0, (hb.cell (p := ⟨L, 1, none⟩) (lt_of_cell h.c1) hn).trans h.c1⟩
def WrRes (w : World) (o : Option (List UInt8)) (e : Ending) (w' : World) : Prop :=
  Below w.heap.size w w' ∧ match o with
    | none => e = .panicked [{ v := faultV 1 0, recovered := false }]
    | some b => e = .returned (.string (mkB b))
/-- Lines of bounded texts. -/
def Fit (ls : List LineV) : Prop := ∀ l ∈ ls, l.name.size ≤ 4294967280 ∧ l.text.size ≤ 4294967280
set_option maxHeartbeats 1600000 in
set_option maxRecDepth 100000 in
theorem written_any (x : Option Addr) (c : Nat) (ls : List LineV) (w : World) (h : Lns w x ls) (hT : Tab w) (hn : ls.length ≤ 4294967280) (hF : Fit ls) :
    Calls Tryd.prog 26 #[.slice x ls.length c] w (WrRes w (printF ls)) := by
  obtain ⟨r, hr⟩ : ∃ r, printF ls = r := ⟨_, rfl⟩
  have HR0 : Hid (printGo [] [] (ls.drop 0) = r) := Lib.hid hr
  rw [hr]
  have HL := Lib.hid h
  have HT := Lib.hid hT
  have HFF := Lib.hid hF
  have hmm := @run_makeMap Tryd.prog
  obtain ⟨n, hn'⟩ : ∃ n, ls.length = n := ⟨_, rfl⟩
  have HN := Lib.hid hn'
  rw [hn'] at hn ⊢
  have H0 : Hid (WS w (w.alloc (.map #[] 0)) w.heap.size [] (.slice none 0 0) []) := Lib.hid ⟨SetM.made w, World.ownsRow_nil _ _ _ _, below_one w _, Nat.le_refl _⟩
  clear h hr hn' hT hF
  go_enter Tryd.func26, Tryd.ntmps26
  go_wp2
  obtain ⟨M, hM⟩ : ∃ M, w.heap.size = M := ⟨_, rfl⟩
  have HMM := Lib.hid hM
  rw [hM]
  rw [hM] at H0
  clear hM
  go_loopw [4, 10] (fun u i wr => ∃ (t : Nat) (b : List UInt8) (v : Value), v = u ∧ i = .int .i64 t ∧ t ≤ n ∧ b.length ≤ 8000 ∧ Hid (WS w wr M (ls.take t) v b) ∧ Hid (printGo (ls.take t) b (ls.drop t) = r)) (fun _ i _ => n - (intOf i).toNat)
  case atStart => exact ⟨0, [], _, rfl, rfl, by omega, by simp, H0, HR0⟩
  case round =>
    clear H0 HR0
    obtain ⟨t, b, v, rfl, rfl, ht, hbl, HW, HR⟩ := hrel
    by_cases hlt : t < n
    · have htx : t < ls.length := by rw [HN.out]; exact hlt
      obtain ⟨bx, off, hxe, hxl, c0, c1, c2⟩ := (HL.out.below HW.out.below) t htx
      have HD := Lib.hid (List.drop_eq_getElem_cons htx)
      have HTK := Lib.hid (List.take_succ_eq_append_getElem htx)
      have hfit := HFF.out _ (List.getElem_mem htx)
      generalize ls[t] = l at c0 c1 c2 HD HTK hfit
      obtain ⟨lm, lt, ln⟩ := l
      simp only at c0 c1 c2 hfit
      obtain ⟨hf1, hf2⟩ := hfit
      have q2 : (0 : Int) ≤ t := by omega
      have q3 : (t : Int) < n := by omega
      subst hxe
      clear htx
      have HL3 : Hid (∀ (o : Obj), o = Obj.cells #[.string lm, .string lt, .int .i64 ln] 35 → WS w (wr.alloc o) M (ls.take t) v b ∧ Tab (wr.alloc o) ∧ Cell3 (wr.alloc o) wr.heap.size lm lt) := Lib.hid fun o ho => by
        have hb := below_one wr o
        refine ⟨HW.out.after hb, HT.out.below (HW.out.below.trans (hb.mono HW.out.below.size)), ?_⟩
        subst ho
        exact ⟨by simp, by simp⟩
      have hdl : (namesL (ls.take t)).length ≤ 4294967280 := by
        unfold namesL
        rw [List.length_map]
        have := List.length_take_le t ls
        omega
      have HADD : Hid (∀ W, WS w W M (ls.take t) v b → Tab W → Calls Tryd.prog 35 #[.map (some M), .string lm] W (AddRes W M (namesL (ls.take t)) lm.data.toList)) := Lib.hid fun W hw hT => nadd_any lm M _ W hw.set hT hf1 hdl
      have HGN : Hid ((namesL (ls.take t)).contains lm.data.toList = givenB (ls.take t) lm.data.toList) := Lib.hid (given_names _ _)
      have HST : Hid (∀ W, Calls Tryd.prog 36 #[.string lt] W fun e w' => e = .returned (.string (mkB (standL lt.data.toList))) ∧ Below W.heap.size W w') := Lib.hid fun W => standing_any lt W hf2
      have HPG : Hid (∀ R, printGo (ls.take t) b (ls.drop t) = R → r = R) := Lib.hid fun R h => by rw [← HR.out, h]
      rw [HD.out] at HPG
      clear HD hdl HR
      go_wp2_with fail
      clear c0 c1 c2
      obtain ⟨L, hL⟩ : ∃ L, wr.heap.size = L := ⟨_, rfl⟩
      have HL4 := Lib.hid (HL3.out _ rfl)
      rw [hL] at HL4 ⊢
      generalize wr.alloc (Obj.cells #[.string lm, .string lt, .int .i64 ln] 35) = W1 at HL4 ⊢
      clear hL HL3
      refine (HADD.out _ HL4.out.1 HL4.out.2.1).mono ?_
      rintro e W2 ⟨rfl, hbM, hset⟩
      have HC2 : Hid (Cell3 W2 L lm lt) := Lib.hid (HL4.out.2.2.but hbM HL4.out.1.set)
      rw [HGN.out] at hset ⊢
      by_cases hok : givenB (ls.take t) lm.data.toList = false ∧ nameB lm.data.toList = true
      · rw [show (!givenB (ls.take t) lm.data.toList && nameB lm.data.toList) = true by rw [hok.1, hok.2]; rfl]
        rw [if_pos hok] at hset
        have HW2 : Hid (WS w W2 M (ls.take t ++ [⟨lm, lt, ln⟩]) v b) := Lib.hid (HL4.out.1.named hbM (l := ⟨lm, lt, ln⟩) hset)
        have d1 := HC2.out.c1
        clear hset hbM
        by_cases h200 : lt.size ≤ 200
        · have q4 : (lt.size : Int) ≤ 200 := by omega
          obtain ⟨E, hE⟩ : ∃ E : ByteArray, E = ((lm ++ (⟨#[32, 61, 32]⟩ : ByteArray)) ++ mkB (standL lt.data.toList)) ++ (⟨#[10]⟩ : ByteArray) := ⟨_, rfl⟩
          have hEd : E.data.toList = entryL ⟨lm, lt, ln⟩ := by rw [hE]; unfold entryL; simp [mkB_data]
          have hsz := standL_len lt.data.toList
          have hlz : lt.data.toList.length = lt.size := by simp
          have hEs : E.size ≤ lm.size + 1000 := by
            rw [show E.size = E.data.toList.length from by simp, hEd]
            unfold entryL
            simp only [List.length_append, List.length_cons, List.length_nil]
            have : lm.data.toList.length = lm.size := by simp
            omega
          have zj1 : ¬ 9223372036854775807 < lm.size + 3 := by omega
          have HED := Lib.hid hEd
          obtain ⟨nb, hnb⟩ : ∃ nb, (b ++ E.data.toList).length = nb := ⟨_, rfl⟩
          have HNB := Lib.hid hnb
          have HPG2 : Hid (∀ R, (if nb ≤ 8000 then printGo (ls.take (t + 1)) (b ++ E.data.toList) (ls.drop (t + 1)) else none) = R → r = R) := Lib.hid fun R h => HPG.out R (by
            rw [printGo, ← h, HTK.out, ← hEd, hnb]
            by_cases h8 : nb ≤ 8000
            · rw [if_pos h8, if_pos ⟨hok.1, hok.2, h200, h8⟩]
            · rw [if_neg h8, if_neg (fun h => h8 h.2.2.2)])
          obtain ⟨SB, hSB⟩ : ∃ SB, mkB (standL lt.data.toList) = SB := ⟨_, rfl⟩
          have zs : SB.size ≤ 1000 := by rw [← hSB, len_mkB]; omega
          rw [hSB] at hE HST
          have HEE := Lib.hid hE
          have zj2 : ¬ 9223372036854775807 < lm.size + 3 + SB.size := by omega
          have zj3 : ¬ 9223372036854775807 < lm.size + 3 + SB.size + 1 := by omega
          clear hE hEd hok hnb hSB hsz hlz
          go_wp2_with fail
          refine (must_ok 1 0 _).mono ?_
          rintro e W3 ⟨rfl, hb3⟩
          have HW3 := Lib.hid (HW2.out.after hb3)
          have HC3 := Lib.hid (HC2.out.below hb3)
          obtain ⟨e0, e1⟩ := HC3.out
          clear hb3 d1
          go_wp2_with fail
          go_region_law (first
            | (go_simp; (with_reducible refine (HST.out _).mono ?_); rintro e W4 ⟨rfl, hb4⟩; have HW4 := Lib.hid (HW3.out.after ((below_drewN W3 1).trans hb4)); have HC4 := Lib.hid (HC3.out.below ((below_drewN W3 1).trans hb4)); have g0 := HC4.out.c0; clear hb4; dsimp only)
            | (refine stepS rfl _ _ rfl HW4.out.own HW4.out.below.size rfl _ rfl (by rw [← HEE.out]; omega) ?_; intro v5 W5 h1 h2; rw [← HEE.out] at h1; obtain ⟨xa, xc, hv5⟩ := own_slice h1; rw [HNB.out] at hv5; subst hv5; have HW5 := Lib.hid (HW4.out.more h1 h2); clear h1 h2))
          all_goals
            by_cases h8 : nb ≤ 8000
            · have q5 : (nb : Int) ≤ 8000 := by omega
              have HRN := Lib.hid (HPG2.out _ (if_pos h8))
              go_wp2_with fail
              refine (must_ok 1 0 _).mono ?_
              rintro e W6 ⟨rfl, hb6⟩
              have HW6 := Lib.hid (HW5.out.after hb6)
              rw [← HTK.out] at HW6
              clear hb6
              go_wp2
              go_roundw
              case rel => exact ⟨t + 1, b ++ E.data.toList, _, rfl, by go_num, by omega, by rw [HNB.out]; exact h8, HW6, Lib.hid HRN.out.symm⟩
              case measure => simp [intOf]; omega
            · have HE : Hid (r = none) := Lib.hid (HPG2.out _ (if_neg h8))
              go_wp2_with fail
              rw [show decide ((nb : Int) ≤ 8000) = false from decide_eq_false (by omega)]
              refine (must_no 1 0 _).mono ?_
              rintro e W6 ⟨rfl, hb6⟩
              have HEF : Hid (WrRes w r (.panicked [{ v := faultV 1 0, recovered := false }]) W6) := Lib.hid (by rw [HE.out]; exact ⟨HW5.out.below.trans (hb6.mono HW5.out.below.size), rfl⟩)
              exact ⟨by first | rfl | trivial, HEF.out⟩
        · have q4 : ¬ (lt.size : Int) ≤ 200 := by omega
          have HE : Hid (r = none) := Lib.hid (HPG.out _ (by rw [printGo, if_neg (fun h => h200 h.2.2.1)]))
          clear h200
          go_wp2_with fail
          rw [show decide ((lt.size : Int) ≤ 200) = false from decide_eq_false (by omega)]
          refine (must_no 1 0 _).mono ?_
          rintro e W3 ⟨rfl, hb3⟩
          have HEE : Hid (WrRes w r (.panicked [{ v := faultV 1 0, recovered := false }]) W3) := Lib.hid (by rw [HE.out]; exact ⟨HW2.out.below.trans (hb3.mono HW2.out.below.size), rfl⟩)
          exact ⟨by first | rfl | trivial, HEE.out⟩
      · rw [show (!givenB (ls.take t) lm.data.toList && nameB lm.data.toList) = false by
          cases hg : givenB (ls.take t) lm.data.toList with
          | true => rfl
          | false => cases hnb : nameB lm.data.toList with
            | false => rfl
            | true => exact absurd ⟨hg, hnb⟩ hok]
        have HE : Hid (r = none) := Lib.hid (HPG.out _ (by rw [printGo, if_neg (fun h => hok ⟨h.1, h.2.1⟩)]))
        have HB2 : Hid (Below w.heap.size w W2) := Lib.hid (HL4.out.1.below.trans (hbM.below HL4.out.1.ge HL4.out.1.below.size))
        clear hset hbM hok
        go_wp2_with fail
        refine (must_no 1 0 _).mono ?_
        rintro e W3 ⟨rfl, hb3⟩
        have HEE : Hid (WrRes w r (.panicked [{ v := faultV 1 0, recovered := false }]) W3) := Lib.hid (by rw [HE.out]; exact ⟨HB2.out.trans (hb3.mono HB2.out.size), rfl⟩)
        exact ⟨by first | rfl | trivial, HEE.out⟩
    · have e : t = n := by omega
      subst e
      have q2 : ¬ (t : Int) < t := by omega
      have HE : Hid (r = some b) := Lib.hid (by rw [← HR.out, List.drop_eq_nil_of_le (by rw [HN.out]; omega)]; rfl)
      obtain ⟨xa, xc, hv⟩ := own_slice HW.out.own
      have hcv := (show Own8 w _ v b from ⟨HW.out.own, HW.out.below⟩).string 9 32 Tryd.underlying9 Tryd.underlying32 Tryd.underlying5
      subst hv
      go_wp2
      go_ret
      rw [HE.out]
      exact ⟨HW.out.below, rfl⟩
end Go.Proofs.YtbpbiakdigjcnaaDoor
