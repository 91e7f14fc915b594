/-
  ValueRefParse.
-/
import Derived.Test.YtbgoooljkdjjhaaGreatDoorQValueRefWords
import Derived.Test.YtbgoooljkdjjhaaGreatDoorQValueParse
namespace Go.Proofs.YtbgoooljkdjjhaaGreatDoor
open Go.ChangeShapes Go.WideShapes Go.ChangeAt Go.RowKit

theorem Txts.set4 {w : World} {x : Option Addr} {xs : List ByteArray} (h : Txts w x xs) {R : Nat} (hR : ∀ b off, x = some ⟨b, off, none⟩ → b ≠ R) (a b c d : Value) : Txts (Go.Proofs.YtbgoooljkdjjhaaGreatDoor.set4 w R a b c d) x xs := fun k hk => by
  obtain ⟨g, off, e, hl, hc⟩ := h k hk
  refine ⟨g, off, e, ?_, ?_⟩
  · rcases Nat.lt_or_ge g (Go.Proofs.YtbgoooljkdjjhaaGreatDoor.set4 w R a b c d).heap.size with h1 | h1
    · exact h1
    · have := set4_block w (hR g off e) a b c d
      rw [Array.getElem?_eq_none h1, Array.getElem?_eq_getElem hl] at this; cases this
  · rw [World.cell?_of_block (w := w) (a := ⟨g, off + k, none⟩) (set4_block w (hR g off e) a b c d)]; exact hc

set_option maxHeartbeats 3200000 in
set_option maxRecDepth 100000 in
theorem refParse_any (k : Int) (s : ByteArray) (w : World) (hs : s.size ≤ 2147483647) :
    Calls Tryz.prog 89 #[.int .i64 k, .string s] w (RefRes w (parseV k s)) := by
  have hb0 : Hid (∀ t, Below w.heap.size w (w.alloc (.cells #[.int .i64 0, .int .i64 0, .string ⟨#[]⟩, .slice none 0 0] t))) := Lib.hid fun t => (Below.refl _ _).alloc (Nat.le_refl _) _
  have HS : Hid (s.size ≤ maxLen) := Lib.hid (by unfold maxLen; omega)
  have HS2 := Lib.hid hs
  clear hs
  by_cases h1 : k = 1
  · subst h1
    by_cases q0 : s.data.toList = [116, 114, 117, 101]
    · obtain rfl := eq_text q0
      have HP : Hid (parseV 1 (mkB [116, 114, 117, 101]) = (⟨1, 1, ⟨#[]⟩, []⟩, 0)) := Lib.hid rfl
      clear q0
      go_enter Tryz.func89, Tryz.ntmps89
      unfold mkB at HP ⊢
      go_wp2
      exact bodyPost_ret (v := .tuple #[.agg #[.int .i64 1, .int .i64 1, .string ⟨#[]⟩, .slice none 0 0], .int .i64 0]) (by simp [results, Tryz.results89, go_sem]) rfl (RefRes.of_num (by rw [HP.out]; try rfl) (by rw [HP.out]; try rfl) ((Below.refl _ _).alloc (Nat.le_refl _) _))
    by_cases q1 : s.data.toList = [121, 101, 115]
    · obtain rfl := eq_text q1
      have HP : Hid (parseV 1 (mkB [121, 101, 115]) = (⟨1, 1, ⟨#[]⟩, []⟩, 0)) := Lib.hid rfl
      clear q1
      go_enter Tryz.func89, Tryz.ntmps89
      unfold mkB at HP ⊢
      go_wp2
      exact bodyPost_ret (v := .tuple #[.agg #[.int .i64 1, .int .i64 1, .string ⟨#[]⟩, .slice none 0 0], .int .i64 0]) (by simp [results, Tryz.results89, go_sem]) rfl (RefRes.of_num (by rw [HP.out]; try rfl) (by rw [HP.out]; try rfl) ((Below.refl _ _).alloc (Nat.le_refl _) _))
    by_cases q2 : s.data.toList = [111, 110]
    · obtain rfl := eq_text q2
      have HP : Hid (parseV 1 (mkB [111, 110]) = (⟨1, 1, ⟨#[]⟩, []⟩, 0)) := Lib.hid rfl
      clear q2
      go_enter Tryz.func89, Tryz.ntmps89
      unfold mkB at HP ⊢
      go_wp2
      exact bodyPost_ret (v := .tuple #[.agg #[.int .i64 1, .int .i64 1, .string ⟨#[]⟩, .slice none 0 0], .int .i64 0]) (by simp [results, Tryz.results89, go_sem]) rfl (RefRes.of_num (by rw [HP.out]; try rfl) (by rw [HP.out]; try rfl) ((Below.refl _ _).alloc (Nat.le_refl _) _))
    by_cases q3 : s.data.toList = [102, 97, 108, 115, 101]
    · obtain rfl := eq_text q3
      have HP : Hid (parseV 1 (mkB [102, 97, 108, 115, 101]) = (⟨1, 0, ⟨#[]⟩, []⟩, 0)) := Lib.hid rfl
      clear q3
      go_enter Tryz.func89, Tryz.ntmps89
      unfold mkB at HP ⊢
      go_wp2
      exact bodyPost_ret (v := .tuple #[.agg #[.int .i64 1, .int .i64 0, .string ⟨#[]⟩, .slice none 0 0], .int .i64 0]) (by simp [results, Tryz.results89, go_sem]) rfl (RefRes.of_num (by rw [HP.out]; try rfl) (by rw [HP.out]; try rfl) ((Below.refl _ _).alloc (Nat.le_refl _) _))
    by_cases q4 : s.data.toList = [110, 111]
    · obtain rfl := eq_text q4
      have HP : Hid (parseV 1 (mkB [110, 111]) = (⟨1, 0, ⟨#[]⟩, []⟩, 0)) := Lib.hid rfl
      clear q4
      go_enter Tryz.func89, Tryz.ntmps89
      unfold mkB at HP ⊢
      go_wp2
      exact bodyPost_ret (v := .tuple #[.agg #[.int .i64 1, .int .i64 0, .string ⟨#[]⟩, .slice none 0 0], .int .i64 0]) (by simp [results, Tryz.results89, go_sem]) rfl (RefRes.of_num (by rw [HP.out]; try rfl) (by rw [HP.out]; try rfl) ((Below.refl _ _).alloc (Nat.le_refl _) _))
    by_cases q5 : s.data.toList = [111, 102, 102]
    · obtain rfl := eq_text q5
      have HP : Hid (parseV 1 (mkB [111, 102, 102]) = (⟨1, 0, ⟨#[]⟩, []⟩, 0)) := Lib.hid rfl
      clear q5
      go_enter Tryz.func89, Tryz.ntmps89
      unfold mkB at HP ⊢
      go_wp2
      exact bodyPost_ret (v := .tuple #[.agg #[.int .i64 1, .int .i64 0, .string ⟨#[]⟩, .slice none 0 0], .int .i64 0]) (by simp [results, Tryz.results89, go_sem]) rfl (RefRes.of_num (by rw [HP.out]; try rfl) (by rw [HP.out]; try rfl) ((Below.refl _ _).alloc (Nat.le_refl _) _))
    have HP : Hid (parseV 1 s = (zeroV, 40)) := Lib.hid (by rw [parse1, boolV, if_neg (by rintro (h | h | h) <;> contradiction), if_neg (by rintro (h | h | h) <;> contradiction)]; rfl)
    have e0 := ne_text q0
    have e1 := ne_text q1
    have e2 := ne_text q2
    have e3 := ne_text q3
    have e4 := ne_text q4
    have e5 := ne_text q5
    clear q0 q1 q2 q3 q4 q5
    go_enter Tryz.func89, Tryz.ntmps89
    go_wp2
    exact bodyPost_ret (v := .tuple #[.agg #[.int .i64 0, .int .i64 0, .string ⟨#[]⟩, .slice none 0 0], .int .i64 40]) (by simp [results, Tryz.results89, go_sem]) rfl (RefRes.of_num (by rw [HP.out]; try rfl) (by rw [HP.out]; try rfl) ((Below.refl _ _).alloc (Nat.le_refl _) _))
  by_cases h2 : k = 2
  · subst h2
    have hw : (parseV 2 s).1.words = [] := by rw [parse2]; exact intOk_words _ _
    obtain ⟨p, hp⟩ : ∃ p, parseV 2 s = p := ⟨_, rfl⟩
    have HP := Lib.hid hp
    have HP2 := Lib.hid ((parse2 s).symm.trans hp)
    rw [hp] at hw
    obtain ⟨⟨pk, pn, pt, pw⟩, pe⟩ := p
    simp only at hw
    subst hw
    clear hp
    go_enter Tryz.func89, Tryz.ntmps89
    go_wp2_with fail
    refine (refWhole_any _ _ HS.out).mono ?_
    rintro e w1 ⟨rfl, hb⟩
    rw [HP2.out]
    unfold numR
    have HZ : zero4 w1 w.heap.size := (box4_new w _ _ _ _ _).below hb
    have HZZ := Lib.hid (HZ.last ((hb0.out 112).trans (hb.mono (hb0.out 112).size)) (Nat.le_refl _))
    clear hb
    obtain ⟨c0, c1, c2, c3, z0, z1, z2, z3⟩ := HZ
    obtain ⟨g0, g1, g2, g3, hB4⟩ := HZZ.out (.int .i64 pk) (.int .i64 pn) (.string pt) (.slice none 0 0)
    have HB := Lib.hid hB4
    clear hB4
    go_wp2
    exact bodyPost_ret (v := .tuple #[.agg #[.int .i64 pk, .int .i64 pn, .string pt, .slice none 0 0], .int .i64 pe]) (by simp [results, Tryz.results89, go_sem, g0, g1, g2, g3]) rfl (RefRes.of_num (by rw [HP.out]) (by rw [HP.out]; rfl) HB.out)
  by_cases h3 : k = 3
  · subst h3
    have hw : (parseV 3 s).1.words = [] := by rw [parse3]; exact intOk_words _ _
    obtain ⟨p, hp⟩ : ∃ p, parseV 3 s = p := ⟨_, rfl⟩
    have HP := Lib.hid hp
    have HP2 := Lib.hid ((parse3 s).symm.trans hp)
    rw [hp] at hw
    obtain ⟨⟨pk, pn, pt, pw⟩, pe⟩ := p
    simp only at hw
    subst hw
    clear hp
    go_enter Tryz.func89, Tryz.ntmps89
    go_wp2_with fail
    refine (united3_any _ _ HS.out).mono ?_
    rintro e w1 ⟨rfl, hb⟩
    rw [HP2.out]
    unfold numR
    have HZ : zero4 w1 w.heap.size := (box4_new w _ _ _ _ _).below hb
    have HZZ := Lib.hid (HZ.last ((hb0.out 112).trans (hb.mono (hb0.out 112).size)) (Nat.le_refl _))
    clear hb
    obtain ⟨c0, c1, c2, c3, z0, z1, z2, z3⟩ := HZ
    obtain ⟨g0, g1, g2, g3, hB4⟩ := HZZ.out (.int .i64 pk) (.int .i64 pn) (.string pt) (.slice none 0 0)
    have HB := Lib.hid hB4
    clear hB4
    go_wp2
    exact bodyPost_ret (v := .tuple #[.agg #[.int .i64 pk, .int .i64 pn, .string pt, .slice none 0 0], .int .i64 pe]) (by simp [results, Tryz.results89, go_sem, g0, g1, g2, g3]) rfl (RefRes.of_num (by rw [HP.out]) (by rw [HP.out]; rfl) HB.out)
  by_cases h4 : k = 4
  · subst h4
    have hw : (parseV 4 s).1.words = [] := by rw [parse4]; exact intOk_words _ _
    obtain ⟨p, hp⟩ : ∃ p, parseV 4 s = p := ⟨_, rfl⟩
    have HP := Lib.hid hp
    have HP2 := Lib.hid ((parse4 s).symm.trans hp)
    rw [hp] at hw
    obtain ⟨⟨pk, pn, pt, pw⟩, pe⟩ := p
    simp only at hw
    subst hw
    clear hp
    go_enter Tryz.func89, Tryz.ntmps89
    go_wp2_with fail
    refine (united4_any _ _ HS.out).mono ?_
    rintro e w1 ⟨rfl, hb⟩
    rw [HP2.out]
    unfold numR
    have HZ : zero4 w1 w.heap.size := (box4_new w _ _ _ _ _).below hb
    have HZZ := Lib.hid (HZ.last ((hb0.out 112).trans (hb.mono (hb0.out 112).size)) (Nat.le_refl _))
    clear hb
    obtain ⟨c0, c1, c2, c3, z0, z1, z2, z3⟩ := HZ
    obtain ⟨g0, g1, g2, g3, hB4⟩ := HZZ.out (.int .i64 pk) (.int .i64 pn) (.string pt) (.slice none 0 0)
    have HB := Lib.hid hB4
    clear hB4
    go_wp2
    exact bodyPost_ret (v := .tuple #[.agg #[.int .i64 pk, .int .i64 pn, .string pt, .slice none 0 0], .int .i64 pe]) (by simp [results, Tryz.results89, go_sem, g0, g1, g2, g3]) rfl (RefRes.of_num (by rw [HP.out]) (by rw [HP.out]; rfl) HB.out)
  by_cases h5 : k = 5
  · subst h5
    have hw : (parseV 5 s).1.words = [] := by rw [parse5]; exact textR_words _
    obtain ⟨p, hp⟩ : ∃ p, parseV 5 s = p := ⟨_, rfl⟩
    have HP := Lib.hid hp
    have HP2 := Lib.hid ((parse5 s).symm.trans hp)
    rw [hp] at hw
    obtain ⟨⟨pk, pn, pt, pw⟩, pe⟩ := p
    simp only at hw
    subst hw
    clear hp
    go_enter Tryz.func89, Tryz.ntmps89
    go_wp2_with fail
    refine (refText_any _ _ HS.out).mono ?_
    rintro e w1 ⟨rfl, hb⟩
    rw [HP2.out]
    unfold numR
    have HZ : zero4 w1 w.heap.size := (box4_new w _ _ _ _ _).below hb
    have HZZ := Lib.hid (HZ.last ((hb0.out 112).trans (hb.mono (hb0.out 112).size)) (Nat.le_refl _))
    clear hb
    obtain ⟨c0, c1, c2, c3, z0, z1, z2, z3⟩ := HZ
    obtain ⟨g0, g1, g2, g3, hB4⟩ := HZZ.out (.int .i64 pk) (.int .i64 pn) (.string pt) (.slice none 0 0)
    have HB := Lib.hid hB4
    clear hB4
    go_wp2
    exact bodyPost_ret (v := .tuple #[.agg #[.int .i64 pk, .int .i64 pn, .string pt, .slice none 0 0], .int .i64 pe]) (by simp [results, Tryz.results89, go_sem, g0, g1, g2, g3]) rfl (RefRes.of_num (by rw [HP.out]) (by rw [HP.out]; rfl) HB.out)
  by_cases h6 : k = 6
  · subst h6
    obtain ⟨p, hp⟩ : ∃ p, parseV 6 s = p := ⟨_, rfl⟩
    have HP := Lib.hid hp
    have HP2 := Lib.hid ((parse6 s).symm.trans hp)
    obtain ⟨⟨pk, pn, pt, pw⟩, pe⟩ := p
    clear hp
    go_enter Tryz.func89, Tryz.ntmps89
    go_wp2_with fail
    refine (refWords_any _ _ HS2.out).mono ?_
    rintro e w1 ⟨hb, x, cap, rfl, hcap, hO, hfar⟩
    rw [HP2.out] at hO hcap ⊢
    simp only at hO hcap ⊢
    have HZ : zero4 w1 w.heap.size := (box4_new w _ _ _ _ _).below hb
    have HZZ := Lib.hid (HZ.last ((hb0.out 112).trans (hb.mono (hb0.out 112).size)) (Nat.le_refl _))
    have HO : Hid (Txts (set4 w1 w.heap.size (.int .i64 pk) (.int .i64 pn) (.string pt) (.slice x pw.length cap)) x pw ∧ pw.length ≤ cap) := Lib.hid ⟨hO.set4 (fun b off e => by have := hfar b off e; simp at this; omega) _ _ _ _, hcap⟩
    have HF : Hid (∀ b off, x = some ⟨b, off, none⟩ → w.heap.size ≤ b) := Lib.hid (fun b off e => by have := hfar b off e; simp at this; omega)
    clear hb hO hcap hfar
    obtain ⟨c0, c1, c2, c3, z0, z1, z2, z3⟩ := HZ
    obtain ⟨g0, g1, g2, g3, hB4⟩ := HZZ.out (.int .i64 pk) (.int .i64 pn) (.string pt) (.slice x pw.length cap)
    have HB := Lib.hid hB4
    clear hB4
    go_wp2
    exact bodyPost_ret (v := .tuple #[.agg #[.int .i64 pk, .int .i64 pn, .string pt, .slice x pw.length cap], .int .i64 pe]) (by simp [results, Tryz.results89, go_sem, g0, g1, g2, g3]) rfl ⟨HB.out, x, cap, by rw [HP.out], by rw [HP.out]; exact HO.out.2, by rw [HP.out]; exact HO.out.1, HF.out⟩
  have HP := Lib.hid (parse0 h1 h2 h3 h4 h5 h6 s)
  have e1 : (k == 1) = false := beq_eq_false_iff_ne.2 h1
  have e2 : (k == 2) = false := beq_eq_false_iff_ne.2 h2
  have e3 : (k == 3) = false := beq_eq_false_iff_ne.2 h3
  have e4 : (k == 4) = false := beq_eq_false_iff_ne.2 h4
  have e5 : (k == 5) = false := beq_eq_false_iff_ne.2 h5
  have e6 : (k == 6) = false := beq_eq_false_iff_ne.2 h6
  clear h1 h2 h3 h4 h5 h6
  go_enter Tryz.func89, Tryz.ntmps89
  go_wp2
  exact bodyPost_ret (v := .tuple #[.agg #[.int .i64 0, .int .i64 0, .string ⟨#[]⟩, .slice none 0 0], .int .i64 1]) (by simp [results, Tryz.results89, go_sem]) rfl (RefRes.of_num (by rw [HP.out]; try rfl) (by rw [HP.out]; try rfl) ((Below.refl _ _).alloc (Nat.le_refl _) _))
end Go.Proofs.YtbgoooljkdjjhaaGreatDoor
