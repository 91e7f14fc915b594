/-
  The walk of the law's 'awake': the chapter's examples.
-/
import Derived.Test.YtlmjgekpbmialaaDoorGlyphUnquote4
import Derived.Test.YtlmjgekpbmialaaDoorGlyphFold
import Derived.Test.YtlmjgekpbmialaaDoorGlyphCount
namespace Go.Proofs.YtlmjgekpbmialaaDoor
open Go.ChangeShapes Go.WideShapes Go.ChangeAt Go.RowKit

theorem aw_u1 (w : World) : Calls Tryd.prog 18 #[.string ⟨#[34, 97, 92, 34, 92, 120, 48, 97, 34]⟩] w fun e w' => e = .returned (.tuple #[.string ⟨#[97, 34, 10]⟩, .int .i64 0]) ∧ Below w.heap.size w w' :=
  (unquote_any _ w (by decide)).mono fun e w' ⟨h, hb⟩ => ⟨h.trans (by rw [show unqL (ByteArray.mk #[34, 97, 92, 34, 92, 120, 48, 97, 34]).data.toList = some [97, 34, 10] from by decide +kernel]; rfl), hb⟩
theorem aw_u2 (w : World) : Calls Tryd.prog 18 #[.string ⟨#[34, 97, 34, 98, 34]⟩] w fun e w' => e = .returned (.tuple #[.string ⟨#[]⟩, .int .i64 20]) ∧ Below w.heap.size w w' :=
  (unquote_any _ w (by decide)).mono fun e w' ⟨h, hb⟩ => ⟨h.trans (by rw [show unqL (ByteArray.mk #[34, 97, 34, 98, 34]).data.toList = none from by decide +kernel]; rfl), hb⟩
theorem aw_n1 (w : World) (hT : Tab w) : Calls Tryd.prog 14 #[.string ⟨#[110, 101, 116, 46, 112, 111, 114, 116]⟩] w fun e w' => e = .returned (.bool true) ∧ w = w' :=
  (isName_any _ w hT (by decide)).mono fun e w' ⟨h, hb⟩ => ⟨h.trans (by rw [show nameB (ByteArray.mk #[110, 101, 116, 46, 112, 111, 114, 116]).data.toList = true from by decide +kernel]), hb⟩
theorem aw_n2 (w : World) (hT : Tab w) : Calls Tryd.prog 14 #[.string ⟨#[97, 46, 46, 98]⟩] w fun e w' => e = .returned (.bool false) ∧ w = w' :=
  (isName_any _ w hT (by decide)).mono fun e w' ⟨h, hb⟩ => ⟨h.trans (by rw [show nameB (ByteArray.mk #[97, 46, 46, 98]).data.toList = false from by decide +kernel]), hb⟩
theorem aw_w (w : World) (hT : Tab w) : Calls Tryd.prog 15 #[.string ⟨#[49, 45, 95, 46]⟩] w fun e w' => e = .returned (.bool true) ∧ w = w' :=
  (isWord_any _ w hT (by decide)).mono fun e w' ⟨h, hb⟩ => ⟨h.trans (by rw [show wordB (ByteArray.mk #[49, 45, 95, 46]).data.toList = true from by decide +kernel]), hb⟩
theorem aw_f (w : World) (hT : Tab w) : Calls Tryd.prog 16 #[.string ⟨#[97, 66, 99]⟩] w fun e w' => e = .returned (.string ⟨#[97, 98, 99]⟩) ∧ Below w.heap.size w w' :=
  (fold_any _ w hT (by decide)).mono fun e w' ⟨h, hb⟩ => ⟨h.trans (by rw [show foldL (ByteArray.mk #[97, 66, 99]).data.toList = [97, 98, 99] from by decide +kernel]; rfl), hb⟩
theorem aw_q (w : World) : Calls Tryd.prog 17 #[.string ⟨#[97, 34, 10]⟩] w fun e w' => e = .returned (.string ⟨#[34, 97, 92, 34, 92, 120, 48, 97, 34]⟩) ∧ Below w.heap.size w w' :=
  (quote_any _ w (by decide)).mono fun e w' ⟨h, hb⟩ => ⟨h.trans (by rw [show quoteL (ByteArray.mk #[97, 34, 10]).data.toList = [34, 97, 92, 34, 92, 120, 48, 97, 34] from by decide +kernel]; rfl), hb⟩
theorem aw_c (w : World) (hT : Tab w) : Calls Tryd.prog 9 #[.int .i64 97] w fun e w' => e = .returned (.int .i64 1) ∧ w = w' :=
  (class_any _ w hT).mono fun e w' ⟨h, hb⟩ => ⟨h.trans (by rw [show cls 97 = 1 from by decide +kernel]), hb⟩
theorem aw_k (w : World) (hT : Tab w) : Calls Tryd.prog 11 #[.int .i64 4] w fun e w' => e = .returned (.int .i64 2) ∧ w = w' :=
  (count_any _ w hT).mono fun e w' ⟨h, hb⟩ => ⟨h.trans (by rw [show cntAll 4 = 2 from by decide +kernel]), hb⟩

set_option maxHeartbeats 1600000 in
theorem awake_any (w : World) (hT : Tab w) :
    Calls Tryd.prog 8 #[] w fun e w' => e = .returned (.bool true) ∧ Below w.heap.size w w' := by
  go_enter Tryd.func8, Tryd.ntmps8
  go_wp2_with fail
  refine (aw_u1 _).mono ?_
  rintro e w1 ⟨rfl, hb1⟩
  go_wp2_with fail
  refine (aw_u2 _).mono ?_
  rintro e w2 ⟨rfl, hb2⟩
  have hB2 := hb1.trans (hb2.mono hb1.size)
  clear hb1 hb2
  have hT2 := hT.below hB2
  go_wp2_with fail
  refine (aw_n1 _ hT2).mono ?_
  rintro e w' ⟨rfl, rfl⟩
  go_wp2_with fail
  refine (aw_n2 _ hT2).mono ?_
  rintro e w' ⟨rfl, rfl⟩
  go_wp2_with fail
  refine (aw_w _ hT2).mono ?_
  rintro e w' ⟨rfl, rfl⟩
  go_wp2_with fail
  refine (aw_f _ hT2).mono ?_
  rintro e w3 ⟨rfl, hb3⟩
  have hB3 := hB2.trans (hb3.mono hB2.size)
  clear hB2 hb3 hT2
  go_wp2_with fail
  refine (aw_q _).mono ?_
  rintro e w4 ⟨rfl, hb4⟩
  have hB4 := hB3.trans (hb4.mono hB3.size)
  clear hB3 hb4
  have hT4 := hT.below hB4
  go_wp2_with fail
  refine (aw_c _ hT4).mono ?_
  rintro e w' ⟨rfl, rfl⟩
  go_wp2_with fail
  refine (aw_k _ hT4).mono ?_
  rintro e w' ⟨rfl, rfl⟩
  go_wp2
  go_ret
  exact ⟨rfl, hB4⟩
end Go.Proofs.YtlmjgekpbmialaaDoor
