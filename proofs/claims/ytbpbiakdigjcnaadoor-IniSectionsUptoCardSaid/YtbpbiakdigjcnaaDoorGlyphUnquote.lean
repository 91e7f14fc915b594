/-
  The plain words of unquoting, and the walks of 'glyph.numbered', 'escaped', 'next', of 'strings.IndexByte', and of the document's own 'digit' and 'next'.
-/
import Derived.Test.YtbpbiakdigjcnaaDoorGlyphQuote
import Derived.Lib.Bytealg
import Derived.Deep.QuietTactic
import Derived.BigQuiet
namespace Go.Proofs.YtbpbiakdigjcnaaDoor
open Go.ChangeShapes Go.WideShapes Go.ChangeAt Go.RowKit

/-- What a digit of sixteen says; below 0: it is none. -/
def hexVal (c : UInt8) : Int := Lib.indexByte hexes c
def bt (l : List UInt8) (i : Nat) : UInt8 := l.getD i 0
def numB (h l : UInt8) : UInt8 × Nat :=
  if hexVal h < 0 ∨ hexVal l < 0 then (0, 0) else if printB (16 * hexVal h + hexVal l) = true then (0, 0) else (UInt8.ofNat (16 * hexVal h + hexVal l).toNat, 4)
def escB (l : List UInt8) : UInt8 × Nat :=
  if 2 ≤ l.length ∧ (((bt l 1).toNat : Int) = 34 ∨ ((bt l 1).toNat : Int) = 92) then (bt l 1, 2)
  else if 4 ≤ l.length ∧ ((bt l 1).toNat : Int) = 120 then numB (bt l 2) (bt l 3) else (0, 0)
def nextB (l : List UInt8) : UInt8 × Nat :=
  if ((bt l 0).toNat : Int) = 92 then escB l else if ((bt l 0).toNat : Int) = 34 ∨ printB (bt l 0).toNat = false then (0, 0) else (bt l 0, 1)
/-- A byte and a count, as two results. -/
def pair (p : UInt8 × Nat) : Ending := .returned (.tuple #[.int .u8 (p.1.toNat : Int), .int .i64 (p.2 : Int)])

theorem hexVal_in : ∀ n : Fin 256, -1 ≤ hexVal (UInt8.ofNat n.val) ∧ hexVal (UInt8.ofNat n.val) ≤ 15 := by decide +kernel
theorem hexVal_le (c : UInt8) : -1 ≤ hexVal c ∧ hexVal c ≤ 15 := by
  have := hexVal_in ⟨c.toNat, c.toNat_lt⟩
  simpa using this
theorem bt_get (t : ByteArray) (i : Nat) (h : i < t.size) : bt t.data.toList i = t[i] := by
  simp [bt, List.getD, h]; rfl
theorem or4 : ∀ a b : Fin 16, bits .or .i64 (16 * (a.val : Int)) (b.val : Int) = 16 * a.val + b.val := by decide +kernel
theorem or16 {x y : Int} (h0 : 0 ≤ x) (h1 : x ≤ 15) (h2 : 0 ≤ y) (h3 : y ≤ 15) : bits .or .i64 (x * 16) y = 16 * x + y := by
  have := or4 ⟨x.toNat, by omega⟩ ⟨y.toNat, by omega⟩
  simp only [Int.toNat_of_nonneg h0, Int.toNat_of_nonneg h2] at this
  rw [Int.mul_comm]; exact this

theorem u8_of (c : UInt8) : ((c.toNat : Int)).toNat.toUInt8 = c := by simp
set_option maxRecDepth 100000 in
theorem indexByte_any (s : ByteArray) (c : UInt8) (w : World) :
    Calls Tryd.prog 95 #[.string s, .int .u8 (c.toNat : Int)] w fun e w' => e = .returned (.int .i64 (Lib.indexByte s.data.toList c)) ∧ w = w' := by
  go_enter Tryd.func95, Tryd.ntmps95
  go_wp2
  rw [run_callFunc_extern Tryd.func97 (by kernel_rfl) (by kernel_rfl) (by kernel_rfl) (e := Extern.BytealgIndexByte.indexByte) (by kernel_rfl), Lib.run_indexByteString, u8_of]
  simp only [Result.andThen]
  rw [Oper.upon_value]
  go_wp2
  go_ret
  exact ⟨rfl, rfl⟩
theorem hexIndex_any (c : UInt8) (w : World) :
    Calls Tryd.prog 95 #[.string ⟨#[48, 49, 50, 51, 52, 53, 54, 55, 56, 57, 97, 98, 99, 100, 101, 102]⟩, .int .u8 (c.toNat : Int)] w fun e w' => e = .returned (.int .i64 (hexVal c)) ∧ w = w' :=
  indexByte_any ⟨#[48, 49, 50, 51, 52, 53, 54, 55, 56, 57, 97, 98, 99, 100, 101, 102]⟩ c w

theorem pair_of {p : UInt8 × Nat} {c n : Int} (h1 : c = (p.1.toNat : Int)) (h2 : n = (p.2 : Int)) : Ending.returned (.tuple #[.int .u8 c, .int .i64 n]) = pair p := by rw [h1, h2]; rfl

set_option maxHeartbeats 800000 in
theorem numbered_any (h l : UInt8) (w : World) :
    Calls Tryd.prog 100 #[.int .u8 (h.toNat : Int), .int .u8 (l.toNat : Int)] w fun e w' => e = pair (numB h l) ∧ w = w' := by
  obtain ⟨a0, a1⟩ := hexVal_le h
  obtain ⟨b0, b1⟩ := hexVal_le l
  by_cases hn : hexVal h < 0 ∨ hexVal l < 0
  · have HP : Hid (numB h l = (0, 0)) := Lib.hid (by rw [numB, if_pos hn])
    by_cases c0 : hexVal h < 0
    · clear hn
      go_enter Tryd.func100, Tryd.ntmps100
      go_wp2_with (go_at_call 95; refine (hexIndex_any _ _).mono ?_; rintro e w' ⟨rfl, rfl⟩)
      go_ret2
      exact ⟨by rw [HP.out]; rfl, rfl⟩
    · have c1 : hexVal l < 0 := by omega
      have c2 : decide (hexVal h < 0) = false := by simpa using c0
      clear hn
      go_enter Tryd.func100, Tryd.ntmps100
      go_wp2_with (go_at_call 95; refine (hexIndex_any _ _).mono ?_; rintro e w' ⟨rfl, rfl⟩)
      go_ret2
      exact ⟨by rw [HP.out]; rfl, rfl⟩
  · have c0 : 0 ≤ hexVal h := by omega
    have c1 : 0 ≤ hexVal l := by omega
    have hor := or16 c0 a1 c1 b1
    by_cases hp : printB (16 * hexVal h + hexVal l) = true
    · have HP : Hid (numB h l = (0, 0)) := Lib.hid (by rw [numB, if_neg hn, if_pos hp])
      clear hn
      go_enter Tryd.func100, Tryd.ntmps100
      go_wp2_with (first
        | (go_at_call 95; refine (hexIndex_any _ _).mono ?_; rintro e w' ⟨rfl, rfl⟩)
        | (go_at_call 60; refine (printed_any _ _).mono ?_; rintro e w' ⟨rfl, rfl⟩))
      go_ret2
      exact ⟨by rw [HP.out]; rfl, rfl⟩
    · have hp' : printB (16 * hexVal h + hexVal l) = false := by simpa using hp
      have HP : Hid (numB h l = (UInt8.ofNat (16 * hexVal h + hexVal l).toNat, 4)) := Lib.hid (by rw [numB, if_neg hn, if_neg hp])
      clear hn hp
      go_enter Tryd.func100, Tryd.ntmps100
      go_wp2_with (first
        | (go_at_call 95; refine (hexIndex_any _ _).mono ?_; rintro e w' ⟨rfl, rfl⟩)
        | (go_at_call 60; refine (printed_any _ _).mono ?_; rintro e w' ⟨rfl, rfl⟩))
      go_ret2
      exact ⟨by rw [HP.out]; exact pair_of (by simp; omega) rfl, rfl⟩
end Go.Proofs.YtbpbiakdigjcnaaDoor
