/-
  The walk of the law GlyphTexts.
-/
import Derived.Test.YtlmjgekpbmialaaDoorGlyphAwake
import Derived.Test.YtlmjgekpbmialaaDoorGlyphNames3
namespace Go.Proofs.YtlmjgekpbmialaaDoor
open Go.ChangeShapes Go.WideShapes Go.ChangeAt Go.RowKit

/-- The three texts that are asked, one behind the other. -/
def askedAt (s t : ByteArray) (k : Nat) : ByteArray := if k = 1 then t else s
theorem asked_cell (w : World) (s t : ByteArray) (ty : TypeId) (k : Nat) (hk : k < 3) : (w.alloc (.cells #[.string s, .string t, .string s] ty)).cell? ⟨w.heap.size, k, none⟩ = some (.string (askedAt s t k)) := by
  rw [World.cell?_alloc_at _ _ _ _ rfl]
  match k, hk with
  | 0, _ | 1, _ | 2, _ => rfl
/-- Behind a step that only makes memory a cell below is as it was. -/
theorem cell_kept {B : Nat} {a w' : World} {g k : Nat} {v : Value} (h : a.cell? ⟨g, k, none⟩ = some v) (hb : Below B a w') (hg : g < B) : w'.cell? ⟨g, k, none⟩ = some v := by
  rw [hb.cell hg]; exact h

set_option maxRecDepth 100000 in
set_option maxHeartbeats 3200000 in
theorem texts_any (s t : ByteArray) (w : World) (hT : Tab w) (hs : s.size ≤ maxLen) (ht : t.size ≤ maxLen) :
    Calls Tryd.prog 5 #[.string s, .string t] w fun e w' => e = .returned (.bool true) ∧ Below w.heap.size w w' := by
  unfold maxLen at hs ht
  by_cases hbig : 536870911 < (if 2147483647 < (s.size : Int) ∨ 2147483647 < (t.size : Int) then (2147483648 : Int) else s.size + t.size)
  · have HB : Hid (decide (536870911 < (if 2147483647 < (s.size : Int) ∨ 2147483647 < (t.size : Int) then (2147483648 : Int) else s.size + t.size)) = true) := Lib.hid (by simpa using hbig)
    generalize hn : (if 2147483647 < (s.size : Int) ∨ 2147483647 < (t.size : Int) then (2147483648 : Int) else s.size + t.size) = n at hbig HB
    have HN := Lib.hid hn
    clear hn
    go_enter Tryd.func5, Tryd.ntmps5
    go_wp2_with (go_at_call 13; refine (addsUp_any _ _ _ (by omega) (by omega)).mono ?_; rintro e w' ⟨rfl, rfl⟩; rw [HN.out])
    go_ret
    exact ⟨rfl, Below.refl _ _⟩
  have hsm : s.size + t.size ≤ 536870911 := by
    split at hbig <;> omega
  have HN : Hid ((if 2147483647 < (s.size : Int) ∨ 2147483647 < (t.size : Int) then (2147483648 : Int) else s.size + t.size) = s.size + t.size) := Lib.hid (if_neg (by omega))
  clear hbig hs ht
  go_enter Tryd.func5, Tryd.ntmps5
  go_wp2_with (first
    | (go_at_call 13; refine (addsUp_any _ _ _ (by omega) (by omega)).mono ?_; rintro e w' ⟨rfl, rfl⟩; rw [HN.out])
    | (go_at_call 8; refine (awake_any _ hT).mono ?_; rintro e w1 ⟨rfl, hb1⟩))
  have hs1 := hb1.size
  have HC : Hid (∀ k, k < 3 → (w1.alloc (.cells #[.string s, .string t, .string s] 9)).cell? ⟨w1.heap.size, k, none⟩ = some (.string (askedAt s t k))) := Lib.hid (asked_cell w1 s t _)
  have hB0 : Below w.heap.size w (w1.alloc (.cells #[.string s, .string t, .string s] 9)) := hb1.alloc hs1 _
  have hz0 : w1.heap.size < (w1.alloc (.cells #[.string s, .string t, .string s] 9)).heap.size := by simp
  clear hb1
  go_loopw [7] (fun i wr => ∃ k : Nat, k ≤ 3 ∧ i = .int .i64 k ∧ Hid (∀ k, k < 3 → wr.cell? ⟨w1.heap.size, k, none⟩ = some (.string (askedAt s t k))) ∧ Below w.heap.size w wr ∧ w1.heap.size < wr.heap.size) (fun i _ => 3 - (intOf i).toNat)
  case atStart => exact ⟨0, by omega, rfl, HC, hB0, hz0⟩
  case round =>
    clear HC hB0 hz0
    obtain ⟨k, hk, rfl, HC, hb, hz⟩ := hrel
    by_cases hlt : k < 3
    · obtain ⟨x, hx⟩ : ∃ x, askedAt s t k = x := ⟨_, rfl⟩
      have hxs : x.size ≤ 536870911 := by rw [← hx]; unfold askedAt; split <;> omega
      have hcell := HC.out k hlt
      rw [hx] at hcell
      have hTr := hT.below hb
      clear hx
      rcases hu : unqL x.data.toList with _ | u
      all_goals
        have HU := Lib.hid hu
        clear hu
        go_wp2_with fail
        refine (isName_any x _ hTr (by unfold maxLen; omega)).mono ?_
        rintro e w' ⟨rfl, rfl⟩
        go_wp2_with fail
        refine (isWord_any x _ hTr (by unfold maxLen; omega)).mono ?_
        rintro e w' ⟨rfl, rfl⟩
        go_wp2_with fail
        refine (fold_any x _ hTr (by unfold maxLen; omega)).mono ?_
        rintro e w2 ⟨rfl, hb2⟩
        simp only [str]
        go_wp2_with fail
        refine (quote_any x _ (by omega)).mono ?_
        rintro e w3 ⟨rfl, hb3⟩
        replace hb3 := hb2.trans (hb3.mono hb2.size)
        clear hb2
        simp only [str]
        go_wp2_with fail
        refine (unquote_any x _ (by omega)).mono ?_
        rintro e w4 ⟨rfl, hb4⟩
        replace hb4 := hb3.trans (hb4.mono hb3.size)
        clear hb3
        rw [HU.out]
        simp only [unqEnd, str]
        go_wp2_with fail
        refine (refUnquote_any x _ (by omega)).mono ?_
        rintro e w5 ⟨rfl, hb5⟩
        replace hb5 := hb4.trans (hb5.mono hb4.size)
        clear hb4
        rw [HU.out]
        simp only [unqEnd, str]
        go_wp2_with fail
        refine (refIsName_any x _ (by omega)).mono ?_
        rintro e w' ⟨rfl, rfl⟩
        go_wp2_with fail
        refine (refIsWord_any x _ (by unfold maxLen; omega)).mono ?_
        rintro e w' ⟨rfl, rfl⟩
        go_wp2_with fail
        refine (refFold_any x _ (by unfold maxLen; omega)).mono ?_
        rintro e w6 ⟨rfl, hb6⟩
        replace hb6 := hb5.trans (hb6.mono hb5.size)
        clear hb5
        simp only [str]
        go_wp2_with fail
        refine (refQuote_any x _ (by omega)).mono ?_
        rintro e w7 ⟨rfl, hb7⟩
        replace hb7 := hb6.trans (hb7.mono hb6.size)
        clear hb6
        simp only [str]
        go_wp2
        go_roundw
        case rel => exact ⟨k + 1, by omega, by go_num, Lib.hid (fun j hj => cell_kept (HC.out j hj) hb7 hz), hb.trans (hb7.mono hb.size), Nat.lt_of_lt_of_le hz hb7.size⟩
        case measure => simp [intOf]; omega
    · go_wp2
      go_ret
      exact ⟨rfl, hb⟩
end Go.Proofs.YtlmjgekpbmialaaDoor
