/-
  EnvCalled.
-/
import Derived.Test.YtbgoooljkdjjhaaGreatDoorQEnvGreat
import Derived.Test.YtbgoooljkdjjhaaGreatDoorQValueWords
import Derived.Shelf.Strings.Replace
namespace Go.Proofs.YtbgoooljkdjjhaaGreatDoor
open Go.ChangeShapes Go.WideShapes Go.ChangeAt Go.RowKit

theorem upper_any (s : ByteArray) (w : World) (hs : s.size ≤ 4294967280) (ha : s.data.toList.all okc = true) :
    Calls Tryz.prog 68 #[.string s] w fun e w' => e = .returned (.string (mkB (Lib.toUpperA s.data.toList))) ∧ Below w.heap.size w w' :=
  Any.strings_ToUpper_ascii Tryz.lays158 Tryz.Builder_Extra_158 s w (by omega) fun j b hb => okc_ascii b (List.all_eq_true.1 ha b (List.mem_of_getElem? hb))
theorem replace_any (s : ByteArray) (w : World) (hs : s.size ≤ 4294967280) (hm : MaxI w) :
    Calls Tryz.prog 67 #[.string s, .string ⟨#[46]⟩, .string ⟨#[95]⟩] w fun e w' => e = .returned (.string (mkB (Lib.replaceAll s.data.toList [46] [95]))) ∧ Below w.heap.size w w' := by
  obtain ⟨m, hm⟩ := hm
  refine Any.strings_ReplaceAll Tryz.lays155 Tryz.Builder_Extra_155 s ⟨#[46]⟩ ⟨#[95]⟩ m w (by omega) hm (by decide) ?_
  have h1 : Lib.countB s ⟨#[46]⟩ ≤ s.size := by
    show Lib.count s.data.toList [46] ≤ s.size
    rw [Lib.count_one]
    have := List.count_le_length (a := (46 : UInt8)) (l := s.data.toList)
    have e : s.data.toList.length = s.size := by simp
    omega
  have h2 : (⟨#[95]⟩ : ByteArray).size = 1 := rfl
  rw [h2]; omega
set_option maxRecDepth 100000 in
theorem called_any (s : ByteArray) (w : World) (hs : s.size ≤ 4294967280) (ha : s.data.toList.all okc = true) (hm : MaxI w) :
    Calls Tryz.prog 40 #[.string s] w fun e w' => e = .returned (.string (mkB (calledL s.data.toList))) ∧ Below w.heap.size w w' := by
  have HU := Lib.hid (upper_any s w hs ha)
  have hl : (mkB (Lib.toUpperA s.data.toList)).data.toList = Lib.toUpperA s.data.toList := by simp [mkB]
  have hz : (mkB (Lib.toUpperA s.data.toList)).size = s.size := by
    have : (mkB (Lib.toUpperA s.data.toList)).data.toList.length = (mkB (Lib.toUpperA s.data.toList)).size := by simp
    rw [← this, hl]; unfold Lib.toUpperA; simp
  have HR : Hid (∀ W, Below w.heap.size w W → Calls Tryz.prog 67 #[.string (mkB (Lib.toUpperA s.data.toList)), .string ⟨#[46]⟩, .string ⟨#[95]⟩] W fun e w' => e = .returned (.string (mkB (calledL s.data.toList))) ∧ Below W.heap.size W w') := Lib.hid fun W hb => by
    refine (replace_any _ W (by omega) (hm.below hb)).mono ?_
    rw [hl, called_lib]
    exact fun _ _ h => h
  clear hl hz hs hm
  generalize mkB (Lib.toUpperA s.data.toList) = U at HU HR
  generalize mkB (calledL s.data.toList) = V at HR ⊢
  go_enter Tryz.func40, Tryz.ntmps40
  go_wp2_with fail
  refine HU.out.mono ?_
  rintro e w1 ⟨rfl, hb1⟩
  have HB1 := Lib.hid hb1
  clear hb1
  go_wp2_with fail
  refine (HR.out _ HB1.out).mono ?_
  rintro e w2 ⟨rfl, hb2⟩
  have HB2 := Lib.hid (HB1.out.trans (hb2.mono HB1.out.size))
  clear hb2
  go_wp2
  go_ret
  exact ⟨rfl, HB2.out⟩
set_option maxRecDepth 100000 in
theorem ename_any (s : ByteArray) (w : World) (hs : s.size ≤ 4294967280) (hT : Tab w) (hm : MaxI w) :
    Calls Tryz.prog 17 #[.string s] w fun e w' => e = .returned (nameV s.data.toList) ∧ Below w.heap.size w w' := by
  have HN : Hid (Calls Tryz.prog 39 #[.string s] w fun e w' => e = .returned (.bool (nameB s.data.toList)) ∧ w = w') := Lib.hid (isName_any s w hT (by unfold maxLen; omega))
  unfold nameV
  cases hn : nameB s.data.toList with
  | true =>
    rw [hn] at HN
    have HC := Lib.hid (called_any s w hs (name_ok hn) hm)
    rw [if_pos rfl]
    clear hs hT hm hn
    generalize mkB (calledL s.data.toList) = V at HC ⊢
    go_enter Tryz.func17, Tryz.ntmps17
    go_wp2_with fail
    refine HN.out.mono ?_
    rintro e w1 ⟨rfl, rfl⟩
    go_wp2_with fail
    refine HC.out.mono ?_
    rintro e w2 ⟨rfl, hb⟩
    have HB := Lib.hid hb
    clear hb
    go_wp2
    go_ret2
    exact ⟨rfl, HB.out⟩
  | false =>
    rw [hn] at HN
    rw [if_neg (by decide)]
    clear hs hT hm hn
    have HB := Lib.hid (Below.refl w.heap.size w)
    go_enter Tryz.func17, Tryz.ntmps17
    go_wp2_with fail
    refine HN.out.mono ?_
    rintro e w1 ⟨rfl, rfl⟩
    go_wp2
    go_ret2
    exact ⟨rfl, HB.out⟩
end Go.Proofs.YtbgoooljkdjjhaaGreatDoor
