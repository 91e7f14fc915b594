/-
  ValueBool, ValueParse.
-/
import Derived.Test.YtlcgfdijohgnpaaGreatDoorQValueNum
import Derived.Test.YtlcgfdijohgnpaaGreatDoorQValueWords
import Derived.Test.YtlcgfdijohgnpaaGreatDoorQValueMeasure
namespace Go.Proofs.YtlcgfdijohgnpaaGreatDoor
open Go.ChangeShapes Go.WideShapes Go.ChangeAt Go.RowKit

set_option maxHeartbeats 800000 in
theorem parseBool_any (s : ByteArray) (w : World) :
  Calls Tryz.prog 95 #[.string s] w fun e w' => e = .returned (numR (intOk 1 (boolV s.data.toList))) ∧ Below w.heap.size w w' := by
 by_cases q0 : s.data.toList = [116, 114, 117, 101]
 ·obtain rfl := eq_text q0
  go_enter Tryz.func95, Tryz.ntmps95
  unfold mkB
  go_wp2
  exact bodyPost_ret (v := .tuple #[.agg #[.int .i64 1, .int .i64 1, .string ⟨#[]⟩, .slice none 0 0], .int .i64 0]) (by simp [results, Tryz.results95, go_sem]) rfl ⟨rfl, (Below.refl _ _).alloc (Nat.le_refl _) _⟩
 by_cases q1 : s.data.toList = [121, 101, 115]
 ·obtain rfl := eq_text q1
  go_enter Tryz.func95, Tryz.ntmps95
  unfold mkB
  go_wp2
  exact bodyPost_ret (v := .tuple #[.agg #[.int .i64 1, .int .i64 1, .string ⟨#[]⟩, .slice none 0 0], .int .i64 0]) (by simp [results, Tryz.results95, go_sem]) rfl ⟨rfl, (Below.refl _ _).alloc (Nat.le_refl _) _⟩
 by_cases q2 : s.data.toList = [111, 110]
 ·obtain rfl := eq_text q2
  go_enter Tryz.func95, Tryz.ntmps95
  unfold mkB
  go_wp2
  exact bodyPost_ret (v := .tuple #[.agg #[.int .i64 1, .int .i64 1, .string ⟨#[]⟩, .slice none 0 0], .int .i64 0]) (by simp [results, Tryz.results95, go_sem]) rfl ⟨rfl, (Below.refl _ _).alloc (Nat.le_refl _) _⟩
 by_cases q3 : s.data.toList = [102, 97, 108, 115, 101]
 ·obtain rfl := eq_text q3
  go_enter Tryz.func95, Tryz.ntmps95
  unfold mkB
  go_wp2
  exact bodyPost_ret (v := .tuple #[.agg #[.int .i64 1, .int .i64 0, .string ⟨#[]⟩, .slice none 0 0], .int .i64 0]) (by simp [results, Tryz.results95, go_sem]) rfl ⟨rfl, (Below.refl _ _).alloc (Nat.le_refl _) _⟩
 by_cases q4 : s.data.toList = [110, 111]
 ·obtain rfl := eq_text q4
  go_enter Tryz.func95, Tryz.ntmps95
  unfold mkB
  go_wp2
  exact bodyPost_ret (v := .tuple #[.agg #[.int .i64 1, .int .i64 0, .string ⟨#[]⟩, .slice none 0 0], .int .i64 0]) (by simp [results, Tryz.results95, go_sem]) rfl ⟨rfl, (Below.refl _ _).alloc (Nat.le_refl _) _⟩
 by_cases q5 : s.data.toList = [111, 102, 102]
 ·obtain rfl := eq_text q5
  go_enter Tryz.func95, Tryz.ntmps95
  unfold mkB
  go_wp2
  exact bodyPost_ret (v := .tuple #[.agg #[.int .i64 1, .int .i64 0, .string ⟨#[]⟩, .slice none 0 0], .int .i64 0]) (by simp [results, Tryz.results95, go_sem]) rfl ⟨rfl, (Below.refl _ _).alloc (Nat.le_refl _) _⟩
 rw [boolV, if_neg (by rintro (h | h | h) <;> contradiction), if_neg (by rintro (h | h | h) <;> contradiction)]
 have e0 := ne_text q0
 have e1 := ne_text q1
 have e2 := ne_text q2
 have e3 := ne_text q3
 have e4 := ne_text q4
 have e5 := ne_text q5
 clear q0 q1 q2 q3 q4 q5
 go_enter Tryz.func95, Tryz.ntmps95
 go_wp2
 exact bodyPost_ret (v := .tuple #[.agg #[.int .i64 0, .int .i64 0, .string ⟨#[]⟩, .slice none 0 0], .int .i64 40]) (by simp [results, Tryz.results95, go_sem]) rfl ⟨rfl, (Below.refl _ _).alloc (Nat.le_refl _) _⟩
end Go.Proofs.YtlcgfdijohgnpaaGreatDoor

namespace Go.Proofs.YtlcgfdijohgnpaaGreatDoor
open Go.ChangeShapes Go.WideShapes Go.ChangeAt Go.RowKit

theorem OwnT.set4 {B B' : Nat} {w : World} {x : Option Addr} {cap : Nat} {xs : List ByteArray} (h : OwnT B w x cap xs) {R : Nat} (hR : R < B) (hB : B' ≤ B) (a b c d : Value) : OwnT B' (set4 w R a b c d) x cap xs := by
 rcases h with h | ⟨g, h1, h2, h3, h4, h5⟩
 ·exact Or.inl h
 ·exact Or.inr ⟨g, h1, by omega, h3, h4, by rw [set4_block _ (by omega)]; exact h5⟩
theorem intOk_words (k : Int) (r : Int × Int) : (intOk k r).1.words = [] := by unfold intOk; split <;> rfl
theorem textR_words (s : ByteArray) : (textR s).1.words = [] := by unfold textR; split <;> rfl
theorem parse1 (s : ByteArray) : parseV 1 s = intOk 1 (boolV s.data.toList) := rfl
theorem parse2 (s : ByteArray) : parseV 2 s = intOk 2 (wholeV s.data.toList) := rfl
theorem parse3 (s : ByteArray) : parseV 3 s = intOk 3 (unitedV 3 s.data.toList) := by unfold parseV; rw [if_neg (by decide), if_neg (by decide), if_pos (Or.inl rfl)]
theorem parse4 (s : ByteArray) : parseV 4 s = intOk 4 (unitedV 4 s.data.toList) := by unfold parseV; rw [if_neg (by decide), if_neg (by decide), if_pos (Or.inr rfl)]
theorem parse5 (s : ByteArray) : parseV 5 s = textR s := by unfold parseV; rw [if_neg (by decide), if_neg (by decide), if_neg (by decide), if_pos rfl]; rfl
theorem parse6 (s : ByteArray) : parseV 6 s = listR s := by unfold parseV; rw [if_neg (by decide), if_neg (by decide), if_neg (by decide), if_neg (by decide), if_pos rfl]; rfl
theorem parse0 {k : Int} (h1 : ¬ k = 1) (h2 : ¬ k = 2) (h3 : ¬ k = 3) (h4 : ¬ k = 4) (h5 : ¬ k = 5) (h6 : ¬ k = 6) (s : ByteArray) : parseV k s = (zeroV, 1) := by
 unfold parseV; rw [if_neg h1, if_neg h2, if_neg (by omega), if_neg h5, if_neg h6]

set_option maxHeartbeats 3200000 in
set_option maxRecDepth 100000 in
theorem parse_any (k : Int) (s : ByteArray) (w : World) (hT : Tab w) (hU : Units w) (hM : MaxI w) (hs : s.size ≤ maxLen) :
  Calls Tryz.prog 68 #[.int .i64 k, .string s] w (ParseRes w (parseV k s)) := by
 have hb0 : Hid (∀ t, Below w.heap.size w (w.alloc (.cells #[.int .i64 0, .int .i64 0, .string ⟨#[]⟩, .slice none 0 0] t)) ∧ Tab (w.alloc (.cells #[.int .i64 0, .int .i64 0, .string ⟨#[]⟩, .slice none 0 0] t)) ∧ Units (w.alloc (.cells #[.int .i64 0, .int .i64 0, .string ⟨#[]⟩, .slice none 0 0] t)) ∧ MaxI (w.alloc (.cells #[.int .i64 0, .int .i64 0, .string ⟨#[]⟩, .slice none 0 0] t))) := Lib.hid fun t =>
  ⟨(Below.refl _ _).alloc (Nat.le_refl _) _, hT.below ((Below.refl _ _).alloc (Nat.le_refl _) _), hU.below ((Below.refl _ _).alloc (Nat.le_refl _) _), hM.below ((Below.refl _ _).alloc (Nat.le_refl _) _)⟩
 have HS := Lib.hid hs
 clear hT hU hM hs
 by_cases h1 : k = 1
 ·subst h1
  have hw : (parseV 1 s).1.words = [] := by rw [parse1]; exact intOk_words _ _
  obtain ⟨p, hp⟩ : ∃ p, parseV 1 s = p := ⟨_, rfl⟩
  have HP := Lib.hid hp
  have HP2 := Lib.hid ((parse1 s).symm.trans hp)
  rw [hp] at hw
  obtain ⟨⟨pk, pn, pt, pw⟩, pe⟩ := p
  simp only at hw
  subst hw
  clear hp
  go_enter Tryz.func68, Tryz.ntmps68
  go_wp2_with fail
  refine (parseBool_any _ _).mono ?_
  rintro e w1 ⟨rfl, hb⟩
  rw [HP2.out]
  unfold numR
  have HZ : zero4 w1 w.heap.size := (box4_new w _ _ _ _ _).below hb
  have HZZ := Lib.hid (HZ.last ((hb0.out 37).1.trans (hb.mono (hb0.out 37).1.size)) (Nat.le_refl _))
  clear hb
  obtain ⟨c0, c1, c2, c3, z0, z1, z2, z3⟩ := HZ
  obtain ⟨g0, g1, g2, g3, hB4⟩ := HZZ.out (.int .i64 pk) (.int .i64 pn) (.string pt) (.slice none 0 0)
  have HB := Lib.hid hB4
  clear hB4
  go_wp2
  exact bodyPost_ret (v := .tuple #[.agg #[.int .i64 pk, .int .i64 pn, .string pt, .slice none 0 0], .int .i64 pe]) (by simp [results, Tryz.results68, go_sem, g0, g1, g2, g3]) rfl (ParseRes.of_num (by rw [HP.out]) (by rw [HP.out]; rfl) HB.out)
 by_cases h2 : k = 2
 ·subst h2
  have hw : (parseV 2 s).1.words = [] := by rw [parse2]; exact intOk_words _ _
  obtain ⟨p, hp⟩ : ∃ p, parseV 2 s = p := ⟨_, rfl⟩
  have HP := Lib.hid hp
  have HP2 := Lib.hid ((parse2 s).symm.trans hp)
  rw [hp] at hw
  obtain ⟨⟨pk, pn, pt, pw⟩, pe⟩ := p
  simp only at hw
  subst hw
  clear hp
  go_enter Tryz.func68, Tryz.ntmps68
  go_wp2_with fail
  refine (parseInt_any _ _ (hb0.out _).2.1 HS.out).mono ?_
  rintro e w1 ⟨rfl, hb⟩
  rw [HP2.out]
  unfold numR
  have HZ : zero4 w1 w.heap.size := (box4_new w _ _ _ _ _).below hb
  have HZZ := Lib.hid (HZ.last ((hb0.out 37).1.trans (hb.mono (hb0.out 37).1.size)) (Nat.le_refl _))
  clear hb
  obtain ⟨c0, c1, c2, c3, z0, z1, z2, z3⟩ := HZ
  obtain ⟨g0, g1, g2, g3, hB4⟩ := HZZ.out (.int .i64 pk) (.int .i64 pn) (.string pt) (.slice none 0 0)
  have HB := Lib.hid hB4
  clear hB4
  go_wp2
  exact bodyPost_ret (v := .tuple #[.agg #[.int .i64 pk, .int .i64 pn, .string pt, .slice none 0 0], .int .i64 pe]) (by simp [results, Tryz.results68, go_sem, g0, g1, g2, g3]) rfl (ParseRes.of_num (by rw [HP.out]) (by rw [HP.out]; rfl) HB.out)
 by_cases h3 : k = 3
 ·subst h3
  have hw : (parseV 3 s).1.words = [] := by rw [parse3]; exact intOk_words _ _
  obtain ⟨p, hp⟩ : ∃ p, parseV 3 s = p := ⟨_, rfl⟩
  have HP := Lib.hid hp
  have HP2 := Lib.hid ((parse3 s).symm.trans hp)
  rw [hp] at hw
  obtain ⟨⟨pk, pn, pt, pw⟩, pe⟩ := p
  simp only at hw
  subst hw
  clear hp
  go_enter Tryz.func68, Tryz.ntmps68
  go_wp2_with fail
  refine (measure3_any _ _ (hb0.out _).2.1 (hb0.out _).2.2.1 HS.out).mono ?_
  rintro e w1 ⟨rfl, hb⟩
  rw [HP2.out]
  unfold numR
  have HZ : zero4 w1 w.heap.size := (box4_new w _ _ _ _ _).below hb
  have HZZ := Lib.hid (HZ.last ((hb0.out 37).1.trans (hb.mono (hb0.out 37).1.size)) (Nat.le_refl _))
  clear hb
  obtain ⟨c0, c1, c2, c3, z0, z1, z2, z3⟩ := HZ
  obtain ⟨g0, g1, g2, g3, hB4⟩ := HZZ.out (.int .i64 pk) (.int .i64 pn) (.string pt) (.slice none 0 0)
  have HB := Lib.hid hB4
  clear hB4
  go_wp2
  exact bodyPost_ret (v := .tuple #[.agg #[.int .i64 pk, .int .i64 pn, .string pt, .slice none 0 0], .int .i64 pe]) (by simp [results, Tryz.results68, go_sem, g0, g1, g2, g3]) rfl (ParseRes.of_num (by rw [HP.out]) (by rw [HP.out]; rfl) HB.out)
 by_cases h4 : k = 4
 ·subst h4
  have hw : (parseV 4 s).1.words = [] := by rw [parse4]; exact intOk_words _ _
  obtain ⟨p, hp⟩ : ∃ p, parseV 4 s = p := ⟨_, rfl⟩
  have HP := Lib.hid hp
  have HP2 := Lib.hid ((parse4 s).symm.trans hp)
  rw [hp] at hw
  obtain ⟨⟨pk, pn, pt, pw⟩, pe⟩ := p
  simp only at hw
  subst hw
  clear hp
  go_enter Tryz.func68, Tryz.ntmps68
  go_wp2_with fail
  refine (measure4_any _ _ (hb0.out _).2.1 (hb0.out _).2.2.1 HS.out).mono ?_
  rintro e w1 ⟨rfl, hb⟩
  rw [HP2.out]
  unfold numR
  have HZ : zero4 w1 w.heap.size := (box4_new w _ _ _ _ _).below hb
  have HZZ := Lib.hid (HZ.last ((hb0.out 37).1.trans (hb.mono (hb0.out 37).1.size)) (Nat.le_refl _))
  clear hb
  obtain ⟨c0, c1, c2, c3, z0, z1, z2, z3⟩ := HZ
  obtain ⟨g0, g1, g2, g3, hB4⟩ := HZZ.out (.int .i64 pk) (.int .i64 pn) (.string pt) (.slice none 0 0)
  have HB := Lib.hid hB4
  clear hB4
  go_wp2
  exact bodyPost_ret (v := .tuple #[.agg #[.int .i64 pk, .int .i64 pn, .string pt, .slice none 0 0], .int .i64 pe]) (by simp [results, Tryz.results68, go_sem, g0, g1, g2, g3]) rfl (ParseRes.of_num (by rw [HP.out]) (by rw [HP.out]; rfl) HB.out)
 by_cases h5 : k = 5
 ·subst h5
  have hw : (parseV 5 s).1.words = [] := by rw [parse5]; exact textR_words _
  obtain ⟨p, hp⟩ : ∃ p, parseV 5 s = p := ⟨_, rfl⟩
  have HP := Lib.hid hp
  have HP2 := Lib.hid ((parse5 s).symm.trans hp)
  rw [hp] at hw
  obtain ⟨⟨pk, pn, pt, pw⟩, pe⟩ := p
  simp only at hw
  subst hw
  clear hp
  go_enter Tryz.func68, Tryz.ntmps68
  go_wp2_with fail
  refine (parseText_any _ _ HS.out).mono ?_
  rintro e w1 ⟨rfl, hb⟩
  rw [HP2.out]
  unfold numR
  have HZ : zero4 w1 w.heap.size := (box4_new w _ _ _ _ _).below hb
  have HZZ := Lib.hid (HZ.last ((hb0.out 37).1.trans (hb.mono (hb0.out 37).1.size)) (Nat.le_refl _))
  clear hb
  obtain ⟨c0, c1, c2, c3, z0, z1, z2, z3⟩ := HZ
  obtain ⟨g0, g1, g2, g3, hB4⟩ := HZZ.out (.int .i64 pk) (.int .i64 pn) (.string pt) (.slice none 0 0)
  have HB := Lib.hid hB4
  clear hB4
  go_wp2
  exact bodyPost_ret (v := .tuple #[.agg #[.int .i64 pk, .int .i64 pn, .string pt, .slice none 0 0], .int .i64 pe]) (by simp [results, Tryz.results68, go_sem, g0, g1, g2, g3]) rfl (ParseRes.of_num (by rw [HP.out]) (by rw [HP.out]; rfl) HB.out)
 by_cases h6 : k = 6
 ·subst h6
  obtain ⟨p, hp⟩ : ∃ p, parseV 6 s = p := ⟨_, rfl⟩
  have HP := Lib.hid hp
  have HP2 := Lib.hid ((parse6 s).symm.trans hp)
  obtain ⟨⟨pk, pn, pt, pw⟩, pe⟩ := p
  clear hp
  go_enter Tryz.func68, Tryz.ntmps68
  go_wp2_with fail
  refine (parseWords_any _ _ (hb0.out _).2.1 (hb0.out _).2.2.2 HS.out).mono ?_
  rintro e w1 ⟨hb, x, cap, rfl, hO⟩
  rw [HP2.out] at hO ⊢
  simp only at hO ⊢
  have HZ : zero4 w1 w.heap.size := (box4_new w _ _ _ _ _).below hb
  have HZZ := Lib.hid (HZ.last ((hb0.out 37).1.trans (hb.mono (hb0.out 37).1.size)) (Nat.le_refl _))
  have HO : Hid (OwnT w.heap.size (set4 w1 w.heap.size (.int .i64 pk) (.int .i64 pn) (.string pt) (.slice x pw.length cap)) x cap pw) := Lib.hid (hO.set4 (by simp) (by simp) _ _ _ _)
  clear hb hO
  obtain ⟨c0, c1, c2, c3, z0, z1, z2, z3⟩ := HZ
  obtain ⟨g0, g1, g2, g3, hB4⟩ := HZZ.out (.int .i64 pk) (.int .i64 pn) (.string pt) (.slice x pw.length cap)
  have HB := Lib.hid hB4
  clear hB4
  go_wp2
  exact bodyPost_ret (v := .tuple #[.agg #[.int .i64 pk, .int .i64 pn, .string pt, .slice x pw.length cap], .int .i64 pe]) (by simp [results, Tryz.results68, go_sem, g0, g1, g2, g3]) rfl ⟨HB.out, x, cap, by rw [HP.out], by rw [HP.out]; exact HO.out⟩
 have HP := Lib.hid (parse0 h1 h2 h3 h4 h5 h6 s)
 have e1 : (k == 1) = false := beq_eq_false_iff_ne.2 h1
 have e2 : (k == 2) = false := beq_eq_false_iff_ne.2 h2
 have e3 : (k == 3) = false := beq_eq_false_iff_ne.2 h3
 have e4 : (k == 4) = false := beq_eq_false_iff_ne.2 h4
 have e5 : (k == 5) = false := beq_eq_false_iff_ne.2 h5
 have e6 : (k == 6) = false := beq_eq_false_iff_ne.2 h6
 clear h1 h2 h3 h4 h5 h6
 go_enter Tryz.func68, Tryz.ntmps68
 go_wp2
 exact bodyPost_ret (v := .tuple #[.agg #[.int .i64 0, .int .i64 0, .string ⟨#[]⟩, .slice none 0 0], .int .i64 1]) (by simp [results, Tryz.results68, go_sem]) rfl (ParseRes.of_num (by rw [HP.out]; rfl) (by rw [HP.out]; rfl) ((Below.refl _ _).alloc (Nat.le_refl _) _))
end Go.Proofs.YtlcgfdijohgnpaaGreatDoor
