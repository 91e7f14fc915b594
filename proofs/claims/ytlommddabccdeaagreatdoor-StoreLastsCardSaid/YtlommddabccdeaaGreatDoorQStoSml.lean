/-
  StoSml.
-/
import Derived.Test.YtlommddabccdeaaGreatDoorQStoRis
import Derived.Test.YtlommddabccdeaaGreatDoorQGlyphNames
import Derived.Shelf.SlMaps.Clone
namespace Go.Proofs.YtlommddabccdeaaGreatDoor
open Go.ChangeShapes Go.WideShapes Go.ChangeAt Go.RowKit

theorem plcRight_any (t k : ByteArray) (w : World) (hT : Tab w) (ht : t.size ≤ maxLen) (hk : k.size ≤ maxLen) :
  Calls Tryz.prog 42 #[plcV t k] w fun e w' => e = .returned (.bool (wordB t.data.toList && wordB k.data.toList)) ∧ Below w.heap.size w w' := by
 have HB : Hid (∀ o, Below w.heap.size w (w.alloc o)) := Lib.hid fun o => (Below.refl _ w).alloc (Nat.le_refl _) _
 have HW : Hid (∀ s : ByteArray, s.size ≤ maxLen → ∀ W, Below w.heap.size w W → Calls Tryz.prog 67 #[.string s] W fun e w' => e = .returned (.bool (wordB s.data.toList)) ∧ W = w') := Lib.hid fun s hs W hW => isWord_any s W (hT.below hW) hs
 have H1 := Lib.hid (HW.out t ht)
 have H2 := Lib.hid (HW.out k hk)
 clear hT ht hk HW
 unfold plcV
 cases hb : wordB t.data.toList
 ·rw [hb] at H1
  clear hb
  go_enter Tryz.func42, Tryz.ntmps42
  go_wp2_with (go_at_call 67; refine (H1.out _ (HB.out _)).mono ?_; rintro e w2 ⟨rfl, rfl⟩)
  go_ret
  exact ⟨rfl, HB.out _⟩
 ·rw [hb] at H1
  clear hb
  generalize wordB k.data.toList = B2 at *
  go_enter Tryz.func42, Tryz.ntmps42
  go_wp2_with (first
   | (go_at_call 67; (with_reducible refine (H1.out _ (HB.out _)).mono ?_); rintro e w2 ⟨rfl, rfl⟩)
   | (go_at_call 67; (with_reducible refine (H2.out _ (HB.out _)).mono ?_); rintro e w2 ⟨rfl, rfl⟩))
  go_ret
  exact ⟨rfl, HB.out _⟩
theorem conRight_any (b : Bool) (v : ByteArray) (w : World) :
  Calls Tryz.prog 43 #[.agg #[.bool b, .string v]] w fun e w' => e = .returned (.bool (decide (v.size ≤ 200))) ∧ Below w.heap.size w w' := by
 have HB : Hid (∀ o, Below w.heap.size w (w.alloc o)) := Lib.hid fun o => (Below.refl _ w).alloc (Nat.le_refl _) _
 have HD : Hid (decide ((v.size : Int) ≤ 200) = decide (v.size ≤ 200)) := Lib.hid (by rw [decide_eq_decide]; omega)
 go_enter Tryz.func43, Tryz.ntmps43
 go_wp2
 go_ret
 exact ⟨by rw [← HD.out]; rfl, HB.out _⟩
theorem plcClone_any (t k : ByteArray) (w : World) (ht : t.size ≤ 1000) (hk : k.size ≤ 1000) :
  Calls Tryz.prog 45 #[plcV t k] w fun e w' => e = .returned (plcV t k) ∧ Below w.heap.size w w' := by
 have HC : Hid (∀ (s : ByteArray) W, s.size ≤ 1000 → Calls Tryz.prog 68 #[.string s] W fun e w' => e = .returned (.string s) ∧ Below W.heap.size W w') := Lib.hid fun s W hs => stringsClone_any s W (by omega)
 have H1 := Lib.hid (fun W => HC.out t W ht)
 have H2 := Lib.hid (fun W => HC.out k W hk)
 clear HC ht hk
 have HF : Hid (∀ W, Below ((w.alloc (.cells #[.string t, .string k] 66)).alloc (.cells #[.string ⟨#[]⟩, .string ⟨#[]⟩] 66)).heap.size ((w.alloc (.cells #[.string t, .string k] 66)).alloc (.cells #[.string ⟨#[]⟩, .string ⟨#[]⟩] 66)) W →
   W.cell? ⟨w.heap.size, 0, none⟩ = some (.string t) ∧ W.cell? ⟨w.heap.size, 1, none⟩ = some (.string k) ∧ W.heap[w.heap.size + 1]? = some (.cells #[.string ⟨#[]⟩, .string ⟨#[]⟩] 66 (0, 0)) ∧ Below w.heap.size w W) := Lib.hid fun W hW => by
  have h1 := heap_alloc_new w (.cells #[.string t, .string k] 66)
  have h2 := (heap_alloc_old (w.alloc (.cells #[.string t, .string k] 66)) (.cells #[.string ⟨#[]⟩, .string ⟨#[]⟩] 66) (by simp : w.heap.size < _)).trans h1
  have h3 := heap_alloc_new (w.alloc (.cells #[.string t, .string k] 66)) (.cells #[.string ⟨#[]⟩, .string ⟨#[]⟩] 66)
  have e : (w.alloc (.cells #[.string t, .string k] 66)).heap.size = w.heap.size + 1 := by simp
  rw [e] at h3
  have h4 := (hW.block w.heap.size (by simp; omega)).trans h2
  exact ⟨cell_at h4 (k := 0) rfl, cell_at h4 (k := 1) rfl, (hW.block _ (by simp)).trans h3, ((((Below.refl _ w).alloc (Nat.le_refl _) _).alloc (by simp) _)).trans (hW.mono (by simp; omega))⟩
 have HD : Hid (Below ((w.alloc (.cells #[.string t, .string k] 66)).alloc (.cells #[.string ⟨#[]⟩, .string ⟨#[]⟩] 66)).heap.size ((w.alloc (.cells #[.string t, .string k] 66)).alloc (.cells #[.string ⟨#[]⟩, .string ⟨#[]⟩] 66)) ((w.alloc (.cells #[.string t, .string k] 66)).alloc (.cells #[.string ⟨#[]⟩, .string ⟨#[]⟩] 66)).drew) := Lib.hid (Below.refl _ _).drew
 unfold plcV
 go_enter Tryz.func45, Tryz.ntmps45
 go_wp2
 obtain ⟨c0, c1, c2, _⟩ := HF.out _ HD.out
 go_region_law (first
  | (go_simp; (with_reducible refine (H1.out _).mono ?_); rintro e w3 ⟨rfl, hb3⟩; have HY := Lib.hid (HX.out.trans (hb3.mono HX.out.size)); obtain ⟨d0, d1, d2, hbe⟩ := HF.out _ HY.out; have HBE := Lib.hid hbe; have e0 := cell_at d2 (k := 0) rfl; have e1 := cell_at d2 (k := 1) rfl; have g0 := free_at d2 (k := 0); have g1 := free_at d2 (k := 1); clear hb3 hbe; dsimp only)
  | (go_simp; (with_reducible refine (H2.out _).mono ?_); rintro e w3 ⟨rfl, hb3⟩; have HY := Lib.hid (HX.out.trans (hb3.mono HX.out.size)); obtain ⟨d0, d1, d2, hbe⟩ := HF.out _ HY.out; have HBE := Lib.hid hbe; have e0 := cell_at d2 (k := 0) rfl; have e1 := cell_at d2 (k := 1) rfl; have g0 := free_at d2 (k := 0); have g1 := free_at d2 (k := 1); clear hb3 hbe; dsimp only)
  | (go_simp; (with_reducible refine (H1.out _).mono ?_); rintro e w2 ⟨rfl, hb2⟩; have HX := Lib.hid (HD.out.trans hb2); obtain ⟨d0, d1, d2, _⟩ := HF.out _ HX.out; clear hb2; dsimp only)
  | (go_simp; (with_reducible refine (H2.out _).mono ?_); rintro e w2 ⟨rfl, hb2⟩; have HX := Lib.hid (HD.out.trans hb2); obtain ⟨d0, d1, d2, _⟩ := HF.out _ HX.out; clear hb2; dsimp only)
  | fail)
 all_goals
  have hr : ((w3.setCell ⟨w.heap.size + 1, 0, none⟩ (.string t)).setCell ⟨w.heap.size + 1, 1, none⟩ (.string k)).heap[w.heap.size + 1]? = some (.cells #[.string t, .string k] 66 (0, 0)) := by
   rw [heap_set_at (heap_set_at d2 _) _]; rfl
  have HR := Lib.hid hr
  clear hr d0 d1 d2 c0 c1 c2 e0 e1 g0 g1
  go_wp2
  (try simp only [Exit.inBlock, Exit.then])
  refine bodyPost_ret (results_cell_row Tryz.results45 _ _ (w.heap.size + 1) _ _ _ _ rfl HR.out Tryz.underlying66 rfl (by kernel_rfl)) rfl ?_
  exact ⟨rfl, (HBE.out.setCell (by simp) _).setCell (by simp) _⟩
theorem conClone_any (bb : Bool) (v : ByteArray) (w : World) (hv : v.size ≤ 1000) :
  Calls Tryz.prog 44 #[.agg #[.bool bb, .string v]] w fun e w' => e = .returned (.agg #[.bool bb, .string v]) ∧ Below w.heap.size w w' := by
 have H2 : Hid (∀ W, Calls Tryz.prog 68 #[.string v] W fun e w' => e = .returned (.string v) ∧ Below W.heap.size W w') := Lib.hid fun W => stringsClone_any v W (by omega)
 clear hv
 have HF : Hid (∀ W, Below ((w.alloc (.cells #[.bool bb, .string v] 68)).alloc (.cells #[.bool false, .string ⟨#[]⟩] 68)).heap.size ((w.alloc (.cells #[.bool bb, .string v] 68)).alloc (.cells #[.bool false, .string ⟨#[]⟩] 68)) W →
   W.cell? ⟨w.heap.size, 0, none⟩ = some (.bool bb) ∧ W.cell? ⟨w.heap.size, 1, none⟩ = some (.string v) ∧ W.heap[w.heap.size + 1]? = some (.cells #[.bool false, .string ⟨#[]⟩] 68 (0, 0)) ∧ Below w.heap.size w W) := Lib.hid fun W hW => by
  have h1 := heap_alloc_new w (.cells #[.bool bb, .string v] 68)
  have h2 := (heap_alloc_old (w.alloc (.cells #[.bool bb, .string v] 68)) (.cells #[.bool false, .string ⟨#[]⟩] 68) (by simp : w.heap.size < _)).trans h1
  have h3 := heap_alloc_new (w.alloc (.cells #[.bool bb, .string v] 68)) (.cells #[.bool false, .string ⟨#[]⟩] 68)
  have e : (w.alloc (.cells #[.bool bb, .string v] 68)).heap.size = w.heap.size + 1 := by simp
  rw [e] at h3
  have h4 := (hW.block w.heap.size (by simp; omega)).trans h2
  exact ⟨cell_at h4 (k := 0) rfl, cell_at h4 (k := 1) rfl, (hW.block _ (by simp)).trans h3, ((((Below.refl _ w).alloc (Nat.le_refl _) _).alloc (by simp) _)).trans (hW.mono (by simp; omega))⟩
 have HD : Hid (Below ((w.alloc (.cells #[.bool bb, .string v] 68)).alloc (.cells #[.bool false, .string ⟨#[]⟩] 68)).heap.size ((w.alloc (.cells #[.bool bb, .string v] 68)).alloc (.cells #[.bool false, .string ⟨#[]⟩] 68)) ((w.alloc (.cells #[.bool bb, .string v] 68)).alloc (.cells #[.bool false, .string ⟨#[]⟩] 68)).drew) := Lib.hid (Below.refl _ _).drew
 go_enter Tryz.func44, Tryz.ntmps44
 go_wp2
 obtain ⟨c0, c1, c2, _⟩ := HF.out _ HD.out
 go_region_law (first
  | (go_simp; (with_reducible refine (H2.out _).mono ?_); rintro e w3 ⟨rfl, hb3⟩; have HY := Lib.hid (HD.out.trans hb3); obtain ⟨d0, d1, d2, hbe⟩ := HF.out _ HY.out; have HBE := Lib.hid hbe; have e0 := cell_at d2 (k := 0) rfl; have e1 := cell_at d2 (k := 1) rfl; have g0 := free_at d2 (k := 0); have g1 := free_at d2 (k := 1); clear hb3 hbe; dsimp only)
  | fail)
 all_goals
  have hr : ((w3.setCell ⟨w.heap.size + 1, 0, none⟩ (.bool bb)).setCell ⟨w.heap.size + 1, 1, none⟩ (.string v)).heap[w.heap.size + 1]? = some (.cells #[.bool bb, .string v] 68 (0, 0)) := by
   rw [heap_set_at (heap_set_at d2 _) _]; rfl
  have HR := Lib.hid hr
  clear hr d0 d1 d2 c0 c1 c2 e0 e1 g0 g1
  go_wp2
  (try simp only [Exit.inBlock, Exit.then])
  refine bodyPost_ret (results_cell_row Tryz.results44 _ _ (w.heap.size + 1) _ _ _ _ rfl HR.out Tryz.underlying68 rfl (by kernel_rfl)) rfl ?_
  exact ⟨rfl, (HBE.out.setCell (by simp) _).setCell (by simp) _⟩
theorem mayBegin_any (says : Int) (first : Bool) (left : Int) (w : World) :
  Calls Tryz.prog 88 #[.int .i64 says, .bool first, .int .i64 left] w fun e w' => e = .returned (.bool (if says = 0 then decide (0 < left) else if says = 1 then first else false)) ∧ w = w' := by
 by_cases h0 : says = 0
 ·subst h0
  rw [if_pos rfl]
  go_enter Tryz.func88, Tryz.ntmps88
  go_wp2
  go_ret
  exact ⟨rfl, rfl⟩
 ·by_cases h1 : says = 1
  ·subst h1
   rw [if_neg h0, if_pos rfl]
   go_enter Tryz.func88, Tryz.ntmps88
   go_wp2
   go_ret
   exact ⟨rfl, rfl⟩
  ·rw [if_neg h0, if_neg h1]
   go_enter Tryz.func88, Tryz.ntmps88
   go_wp2
   go_ret
   exact ⟨rfl, rfl⟩
theorem zeroC (w : World) : (zeroValue 68).run Tryz.prog w = .ok (conV none) w := by kernel_rfl
theorem cput_any (w : World) (M n : Nat) (f : ByteArray → ByteArray → Option Value) (h : KMap w M n f) (t k : ByteArray) (ht : t.size ≤ maxLen) (hk : k.size ≤ maxLen) (o : Option ByteArray) (hn : n < maxLen) :
  Calls Tryz.prog 47 #[.map (some M), plcV t k, conV o] w fun e w' => e = .returned (.tuple #[]) ∧ (∃ n', KMap w' M n' (updK f t k (o.map fun v => conV (some v)))) ∧ Upd [M] w w' := by
 have HB : Hid (∀ a b, Below w.heap.size w ((w.alloc a).alloc b)) := Lib.hid fun a b => ((Below.refl _ w).alloc (Nat.le_refl _) _).alloc (by simp) _
 have HM : Hid (∀ a b, KMap ((w.alloc a).alloc b) M n f) := Lib.hid fun a b => h.below (HB.out a b)
 have HU : Hid (∀ a b w', ((w.alloc a).alloc b).grownBy w' (some M) → Upd [M] w w') := Lib.hid fun a b w' hg => by
  have hb := HB.out a b
  exact ⟨hg.os.trans hb.os, hg.tape.trans hb.tape, hg.output.trans hb.output, Nat.le_trans hb.size hg.size, fun i hi hn => (hg.block i (Nat.lt_of_lt_of_le hi hb.size) (fun e => hn (by injection e with e; rw [e]; exact List.mem_cons_self))).trans (hb.block i hi)⟩
 have HT := Lib.hid (And.intro ht hk)
 have HN := Lib.hid hn
 clear h ht hk hn
 cases o with
 | some v =>
  unfold plcV conV
  go_enter Tryz.func47, Tryz.ntmps47
  go_wp2_with (first
   | (at_mapUpdate; refine wpList_put_k rfl _ _ _ _ _ rfl Tryz.underlying59 rfl t k rfl _ rfl (HM.out _ _) HN.out HT.out.1 HT.out.2 ?_; intro w2 n2 hm2 hg2; have HM2 := Lib.hid hm2; have HU2 := Lib.hid (HU.out _ _ _ hg2); clear hm2 hg2)
   | go_in)
  go_end0
  exact ⟨rfl, ⟨_, HM2.out⟩, HU2.out⟩
 | none =>
  unfold plcV conV
  go_enter Tryz.func47, Tryz.ntmps47
  go_wp2_with (first
   | (at_delete; refine wpList_drop_k rfl _ _ _ _ rfl Tryz.underlying59 rfl t k rfl (HM.out _ _) HT.out.1 HT.out.2 ?_; intro w2 n2 hm2 hg2; have HM2 := Lib.hid hm2; have HU2 := Lib.hid (HU.out _ _ _ hg2); clear hm2 hg2)
   | go_in)
  go_end0
  exact ⟨rfl, ⟨_, HM2.out⟩, HU2.out⟩
theorem KMap.ext2 {w : World} {M n : Nat} {f g : ByteArray → ByteArray → Option Value} (h : KMap w M n f) (he : ∀ t k : ByteArray, t.size ≤ maxLen → k.size ≤ maxLen → f t k = g t k) : KMap w M n g := by
 obtain ⟨D, h1, h2, h3⟩ := h
 exact ⟨D, h1, h2, fun t k a b => by rw [← he t k a b]; exact h3 t k a b⟩
set_option maxRecDepth 100000 in
theorem kclone_any (M n : Nat) (f : ByteArray → ByteArray → Option Value) (w : World) (h : KMap w M n f) :
  Calls Tryz.prog 46 #[.map (some M)] w fun e w' => e = .returned (.map (some w.heap.size)) ∧ KMap w' w.heap.size n f ∧ Below w.heap.size w w' := by
 obtain ⟨D, ⟨es, clock, hb, hr⟩, h2, h3⟩ := h
 have hq := fun w => run_eql_map_nil_sl (P := Tryz.prog) w 59 _ _ (some M) Tryz.underlying59
 have H : Hid (KMap (w.alloc (.map es clock)) w.heap.size n f ∧ Below w.heap.size w (w.alloc (.map es clock))) := Lib.hid ⟨⟨D, ⟨es, clock, (MapKept.heap_alloc w _).1, hr⟩, h2, h3⟩, (Below.refl _ w).alloc (Nat.le_refl _) _⟩
 go_enter Tryz.func46, Tryz.ntmps46
 go_wp2
 rw [run_callFunc_extern Tryz.func69 (by kernel_rfl) (by kernel_rfl) (by kernel_rfl) (e := Extern.MapsClone.clone) (by kernel_rfl), run_maps_clone_sl w 59 hb]
 simp only [Result.andThen]
 rw [Oper.upon_value]
 go_wp2
 rw [run_typeAssert_map_sl _ 59 20 _ _ _ Tryz.underlying59]
 simp only [Result.andThen]
 rw [Oper.upon_value]
 go_wp2
 go_ret
 exact ⟨rfl, H.out⟩
end Go.Proofs.YtlommddabccdeaaGreatDoor
