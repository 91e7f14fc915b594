/-
  KeyFinds.
-/
import Derived.Test.YtbgoooljkdjjhaaGreatDoorQKeySet
import Derived.Lib.SliceRun
namespace Go.Proofs.YtbgoooljkdjjhaaGreatDoor
open Go.ChangeShapes Go.WideShapes Go.ChangeAt Go.RowKit

theorem std_small : ∀ l ∈ [netL, logL, sbL], l.length ≤ 1000 ∧ ∀ k ∈ l, Small k := by
  have h : ([netL, logL, sbL].all fun l => decide (l.length ≤ 1000) && l.all fun k => decide (k.name.size ≤ 4294967280) && (decide (k.dflt.size ≤ 4294967280) && decide (k.letter.size ≤ 4294967280))) = true := by kernel_rfl
  intro l hl
  have h1 := List.all_eq_true.1 h l hl
  simp only [Bool.and_eq_true, decide_eq_true_eq] at h1
  refine ⟨h1.1, fun k hk => ?_⟩
  have h2 := List.all_eq_true.1 h1.2 k hk
  simp only [Bool.and_eq_true, decide_eq_true_eq] at h2
  exact h2
set_option maxHeartbeats 1600000 in
set_option maxRecDepth 100000 in
theorem standard_any (w : World) (hT : Tab w) (hU : Units w) (hM : MaxI w) : Calls Tryz.prog 29 #[] w fun e w' => ∃ S, e = .returned (.pointer (some ⟨S, 0, none⟩)) ∧ SetIn w w' S stdL := by
  have HT : Hid (∀ w3, Below w.heap.size w w3 → ∀ L c, ListsAt w3 L [netL, logL, sbL] → Calls Tryz.prog 50 #[.slice (some ⟨L, 0, none⟩) 3 c] w3 fun e w' => ∃ S, e = .returned (.pointer (some ⟨S, 0, none⟩)) ∧ SetIn w3 w' S stdL) := Lib.hid fun w3 hb L c hl => by
    have h := together_any [netL, logL, sbL] L c w3 hl (by decide) std_small (hT.below hb) (hU.below hb) (hM.below hb)
    rw [show [netL, logL, sbL].flatten = netL ++ logL ++ sbL by simp, std_fold] at h
    exact h
  clear hT hU hM
  go_enter Tryz.func29, Tryz.ntmps29
  go_wp2_with fail
  refine (netKeys_any _).mono ?_
  rintro e w1 ⟨g1, rfl, hk1, hn1, hb1⟩
  rw [show netL.length = 5 from rfl]
  go_wp2_with fail
  refine (logKeys_any _).mono ?_
  rintro e w2 ⟨g2, rfl, hk2, hn2, hb2⟩
  rw [show logL.length = 3 from rfl]
  go_wp2_with fail
  refine (storeAndBootKeys_any _).mono ?_
  rintro e w3 ⟨g3, rfl, hk3, hn3, hb3⟩
  rw [show sbL.length = 8 from rfl]
  have HB3 : Hid (Below w.heap.size w w3) := Lib.hid ((hb1.trans (hb2.mono hb1.size)).trans (hb3.mono (Nat.le_trans hb1.size hb2.size)))
  have HL : Hid (∀ t, ListsAt (w3.alloc (Obj.cells #[.slice (some ⟨g1, 0, none⟩) 5 5, .slice (some ⟨g2, 0, none⟩) 3 3, .slice (some ⟨g3, 0, none⟩) 8 8] t)) w3.heap.size [netL, logL, sbL]) := Lib.hid fun t => by
    refine ⟨by simp, fun i hi => ?_⟩
    have h3 : i = 0 ∨ i = 1 ∨ i = 2 := by simp at hi; omega
    rcases h3 with rfl | rfl | rfl
    · exact ⟨some ⟨g1, 0, none⟩, 5, by simp; rfl, ((hk1.below hb2).below hb3).below (below_one _ _)⟩
    · exact ⟨some ⟨g2, 0, none⟩, 3, by simp; rfl, (hk2.below hb3).below (below_one _ _)⟩
    · exact ⟨some ⟨g3, 0, none⟩, 8, by simp; rfl, hk3.below (below_one _ _)⟩
  clear hk1 hn1 hb1 hk2 hn2 hb2 hk3 hn3 hb3
  go_wp2_with fail
  refine (HT.out _ (HB3.out.trans ((below_one w3 _).mono HB3.out.size)) _ _ (HL.out _)).mono ?_
  rintro e w4 ⟨S, rfl, hs⟩
  have HE : Hid (SetIn w w4 S stdL) := Lib.hid (by
    have hb0 := HB3.out.trans ((below_one w3 (Obj.cells #[.slice (some ⟨g1, 0, none⟩) 5 5, .slice (some ⟨g2, 0, none⟩) 3 3, .slice (some ⟨g3, 0, none⟩) 8 8] 22)).mono HB3.out.size)
    exact ⟨hs.set, HB3.out.trans (((below_one w3 _).mono HB3.out.size).trans (hs.below.mono hb0.size)), Nat.le_trans hb0.size hs.new, hs.sorted, hs.len⟩)
  clear hs
  go_wp2
  go_ret
  exact ⟨S, rfl, HE.out⟩

/-- The definition of a name. -/
def findK (xs : List KeyV) (nm : ByteArray) : Option KeyV := xs.find? fun k => decide (k.name = nm)
theorem find_drop {xs : List KeyV} {nm : ByteArray} {t : Nat} (h : t < xs.length) : findK (xs.drop t) nm = if decide (xs[t].name = nm) then some xs[t] else findK (xs.drop (t + 1)) nm := by
  unfold findK
  rw [List.drop_eq_getElem_cons h, List.find?_cons]
  cases decide (xs[t].name = nm) <;> rfl
theorem find_yes {xs : List KeyV} {nm : ByteArray} {i : Nat} (h : PlaceIs xs nm i) (hi : i < xs.length) (h0 : cmpAt xs nm i = 0) : findK xs nm = some xs[i] := by
  unfold findK
  rw [List.find?_eq_some_iff_getElem]
  rw [cmpAt_of hi] at h0
  refine ⟨by simpa using cmpB_eq h0, i, hi, rfl, fun j hj => ?_⟩
  have h1 := h.2.1 j hj
  rw [cmpAt_of (Nat.lt_trans hj hi)] at h1
  have : ¬ xs[j].name = nm := fun e => by rw [e, cmpB_refl] at h1; omega
  simpa using this
theorem find_no {xs : List KeyV} {nm : ByteArray} (h : hasK xs nm = false) : findK xs nm = none := by
  unfold findK
  rw [List.find?_eq_none]
  intro x hx
  have := List.any_eq_false.1 h x hx
  exact this

set_option maxHeartbeats 1600000 in
set_option maxRecDepth 100000 in
theorem find_any (xs : List KeyV) (nm : ByteArray) (S : Nat) (x : Option Addr) (c : Nat) (w : World) (h : SetAt w S x c xs) (hs : Sorted xs) (hn : xs.length ≤ 1000000) :
    Calls Tryz.prog 37 #[.pointer (some ⟨S, 0, none⟩), .string nm] w fun e w' => e = .returned (oAgg (findK xs nm)) ∧ Below w.heap.size w w' := by
  have HS := Lib.hid h
  have HP : Hid (∀ o, Calls Tryz.prog 56 #[.pointer (some ⟨S, 0, none⟩), .string nm] (w.alloc o) (FoundRes xs nm (w.alloc o))) := Lib.hid fun o => place_any xs nm S x c _ (h.below (below_one w o)) (hs.mono _) hn
  have HZ : Hid (∀ t, Box6 (w.alloc (Obj.cells #[.string ⟨#[]⟩, .int .i64 0, .string ⟨#[]⟩, .int .i64 0, .int .i64 0, .string ⟨#[]⟩] t)) w.heap.size kZero ∧ Below w.heap.size w (w.alloc (Obj.cells #[.string ⟨#[]⟩, .int .i64 0, .string ⟨#[]⟩, .int .i64 0, .int .i64 0, .string ⟨#[]⟩] t))) := Lib.hid fun t => ⟨box6_new w kZero t, below_one w _⟩
  obtain ⟨r, hr⟩ : ∃ r, findK xs nm = r := ⟨_, rfl⟩
  have HR := Lib.hid hr
  rw [hr]
  clear h hr
  go_enter Tryz.func37, Tryz.ntmps37
  go_wp2_with fail
  refine (HP.out _).mono ?_
  rintro e w1 ⟨i, hpi, rfl, hb1⟩
  have HB1 := Lib.hid ((HZ.out _).2.trans (hb1.mono (HZ.out _).2.size))
  have HX1 := Lib.hid ((HZ.out _).1.below hb1)
  have HPI := Lib.hid hpi
  have HFF := Lib.hid (found_is hs hpi)
  have HS1 := Lib.hid (HS.out.below HB1.out)
  clear hb1 HZ HP
  by_cases hf : i < xs.length ∧ cmpAt xs nm i = 0
  · obtain ⟨hi, h0⟩ := hf
    have HR2 : Hid (r = some xs[i]) := Lib.hid (HR.out.symm.trans (find_yes HPI.out hi h0))
    rw [show (decide (i < xs.length) && decide (cmpAt xs nm i = 0)) = true by rw [decide_eq_true hi, decide_eq_true h0]; rfl]
    obtain ⟨b, hxe, hbl, c0, c1, c2, c3, c4, c5⟩ := HS1.out.keys i hi
    have hcell := HS1.out.cell
    generalize xs[i] = k at c0 c1 c2 c3 c4 c5 HR2
    obtain ⟨kn, kk, kd, kl, km, kt⟩ := k
    simp only at c0 c1 c2 c3 c4 c5
    have q1 : (0 : Int) ≤ i := by omega
    have q2 : (i : Int) < xs.length := by omega
    subst hxe
    have HS6 : Hid (Box6 (set6 w1 w.heap.size ⟨kn, kk, kd, kl, km, kt⟩) w.heap.size ⟨kn, kk, kd, kl, km, kt⟩ ∧ Below w.heap.size w (set6 w1 w.heap.size ⟨kn, kk, kd, kl, km, kt⟩)) := Lib.hid ⟨HX1.out.set6 _, below_set6 HB1.out (Nat.le_refl _) _⟩
    obtain ⟨b0, b1, b2, b3, b4, b5, bf⟩ := HX1.out
    have f0 := bf 0 (by decide)
    have f1 := bf 1 (by decide)
    have f2 := bf 2 (by decide)
    have f3 := bf 3 (by decide)
    have f4 := bf 4 (by decide)
    have f5 := bf 5 (by decide)
    obtain ⟨g0, g1, g2, g3, g4, g5, _⟩ := HS6.out.1
    have HF := Lib.hid HS6.out.2
    unfold kZero at b0 b1 b2 b3 b4 b5
    unfold set6 at g0 g1 g2 g3 g4 g5 HF
    simp only at b0 b1 b2 b3 b4 b5 g0 g1 g2 g3 g4 g5 HF
    clear bf HS6 h0
    go_wp2
    exact bodyPost_ret (v := .tuple #[.agg #[.string kn, .int .i64 kk, .string kd, .int .i64 kl, .int .i64 km, .string kt], .bool true]) (by simp [results, Tryz.results37, go_sem, g0, g1, g2, g3, g4, g5]) rfl ⟨ret_val (by rw [HR2.out]; rfl), HF.out⟩
  · have hF : (decide (i < xs.length) && decide (cmpAt xs nm i = 0)) = false := by
      rw [Bool.and_eq_false_iff]
      by_cases h1 : i < xs.length
      · exact Or.inr (decide_eq_false (fun h2 => hf ⟨h1, h2⟩))
      · exact Or.inl (decide_eq_false h1)
    have HR2 : Hid (r = none) := Lib.hid (HR.out.symm.trans (find_no (HFF.out.symm.trans hF)))
    rw [hF]
    clear hf hF HFF
    have HS6 : Hid (Box6 (set6 w1 w.heap.size kZero) w.heap.size kZero ∧ Below w.heap.size w (set6 w1 w.heap.size kZero)) := Lib.hid ⟨HX1.out.set6 _, below_set6 HB1.out (Nat.le_refl _) _⟩
    obtain ⟨b0, b1, b2, b3, b4, b5, bf⟩ := HX1.out
    have f0 := bf 0 (by decide)
    have f1 := bf 1 (by decide)
    have f2 := bf 2 (by decide)
    have f3 := bf 3 (by decide)
    have f4 := bf 4 (by decide)
    have f5 := bf 5 (by decide)
    obtain ⟨g0, g1, g2, g3, g4, g5, _⟩ := HS6.out.1
    have HF := Lib.hid HS6.out.2
    unfold kZero at b0 b1 b2 b3 b4 b5
    unfold set6 kZero at g0 g1 g2 g3 g4 g5 HF
    simp only at b0 b1 b2 b3 b4 b5 g0 g1 g2 g3 g4 g5 HF
    clear bf HS6
    go_wp2
    exact bodyPost_ret (v := .tuple #[.agg #[.string ⟨#[]⟩, .int .i64 0, .string ⟨#[]⟩, .int .i64 0, .int .i64 0, .string ⟨#[]⟩], .bool false]) (by simp [results, Tryz.results37, go_sem, g0, g1, g2, g3, g4, g5]) rfl ⟨ret_val (by rw [HR2.out]; rfl), HF.out⟩

set_option maxHeartbeats 1600000 in
set_option maxRecDepth 100000 in
theorem clone6_any (xs : List KeyV) (b c : Nat) (w : World) (hx : Keys w (some ⟨b, 0, none⟩) xs) (h0 : 0 < xs.length) (hn : xs.length ≤ 1000000) :
    Calls Tryz.prog 49 #[.slice (some ⟨b, 0, none⟩) xs.length c] w (InsRes w xs) := by
  have hg : ∀ t, ∃ c' cur, (∀ ty, (Builtin.append_ #[22, 22] ty #[.slice (some ⟨w.heap.size, 0, none⟩) 0 0, .slice (some ⟨b, 0, none⟩) xs.length c]).run Tryz.prog (w.alloc (Obj.cells #[] t)) = .ok (.slice (some ⟨w.heap.size + 1, 0, none⟩) xs.length c') ((w.alloc (Obj.cells #[] t)).drew.alloc (.cells cur 57))) ∧ InsRes w xs (.returned (.slice (some ⟨w.heap.size + 1, 0, none⟩) xs.length c')) ((w.alloc (Obj.cells #[] t)).drew.alloc (.cells cur 57)) := fun t => by
    have hb := below_one w (Obj.cells #[] t)
    obtain ⟨c', cur, hr, h1, _, h3⟩ := grow_run (w.alloc (Obj.cells #[] t)) w.heap.size 0 0 [] rfl (fun j v hv => by simp at hv) b 0 xs.length c (flat xs) (flat_len xs) (fun j v hv => by rw [Nat.zero_add]; exact (hx.below hb).flat j v hv) 0 (by omega) (by omega)
    rw [Nat.zero_add] at hr h1
    have hsz : (w.alloc (Obj.cells #[] t)).heap.size = w.heap.size + 1 := by simp
    rw [hsz] at hr
    refine ⟨c', cur, hr, _, c', rfl, Nat.le_succ _, h1, ?_, hb.trans ((below_drew_alloc _ _).mono hb.size)⟩
    rw [← hsz]
    exact Keys.of_block (t := 57) (fr := (0, 0)) (heap_alloc_new (w.alloc (Obj.cells #[] t)).drew _) h3
  obtain ⟨c', cur, hr, hE⟩ := hg 57
  have HR := Lib.hid hr
  have HE := Lib.hid hE
  clear hr hE hx hg
  generalize xs.length = n at *
  have hq : ∀ (w : World) (a : Option Addr) (n c n' c' : Nat), (binOp .eql 22 (.slice a n c) (.slice none n' c')).run Tryz.prog w = .ok (.bool a.isNone) w := fun w a n c n' c' => Lib.run_eql_slice_nil w _ _ a n c n' c' Tryz.underlying22
  go_enter Tryz.func49, Tryz.ntmps49
  go_wp2_with (at_builtin; refine wpList_append_eq rfl _ _ _ _ rfl _ _ _ rfl rfl (HR.out _) ?_)
  go_ret
  exact HE.out
set_option maxRecDepth 100000 in
theorem all_any (xs : List KeyV) (S : Nat) (x : Option Addr) (c : Nat) (w : World) (h : SetAt w S x c xs) (h0 : 0 < xs.length) (hn : xs.length ≤ 1000000) :
    Calls Tryz.prog 28 #[.pointer (some ⟨S, 0, none⟩)] w (InsRes w xs) := by
  have hc := h.cell
  obtain ⟨b, hxe, _⟩ := h.keys 0 h0
  subst hxe
  have HC := Lib.hid (clone6_any xs b c w h.keys h0 hn)
  clear h
  go_enter Tryz.func28, Tryz.ntmps28
  go_wp2_with fail
  refine HC.out.mono ?_
  rintro e w' ⟨g, c', rfl, h1, h2, h3, h4⟩
  have HE : Hid (InsRes w xs (.returned (.slice (some ⟨g, 0, none⟩) xs.length c')) w') := Lib.hid ⟨g, c', rfl, h1, h2, h3, h4⟩
  clear h1 h2 h3 h4 HC
  go_wp2
  go_ret
  exact HE.out
end Go.Proofs.YtbgoooljkdjjhaaGreatDoor
