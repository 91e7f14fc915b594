/-
  JnlNum, JnlHead.
-/
import Derived.Test.YtlommddabccdeaaGreatDoorQDskNew
import Derived.Lib.EndianBits
namespace Go.Proofs.YtlommddabccdeaaGreatDoor
open Go.ChangeShapes Go.WideShapes Go.ChangeAt Go.RowKit

def numB (c n : Nat) : List UInt8 := (List.range c).map fun i => UInt8.ofNat (n / 256 ^ (c - 1 - i))
theorem numB_len (c n : Nat) : (numB c n).length = c := by simp [numB]
def numL (l : List UInt8) : Nat := l.foldl (fun n b => n * 256 + b.toNat) 0
theorem numL_snoc (l : List UInt8) (b : UInt8) : numL (l ++ [b]) = numL l * 256 + b.toNat := by simp [numL]
theorem numB_succ (c n : Nat) : numB (c + 1) n = numB c (n / 256) ++ [UInt8.ofNat n] := by
 unfold numB
 rw [List.range_succ, List.map_append]
 congr 1
 ·apply List.map_congr_left
  intro i hi
  have := List.mem_range.1 hi
  congr 1
  rw [Nat.div_div_eq_div_mul, show c + 1 - 1 - i = (c - 1 - i) + 1 by omega, Nat.pow_succ, Nat.mul_comm]
 ·simp
theorem numL_numB : ∀ (c n : Nat), n < 256 ^ c → numL (numB c n) = n
 | 0, n, h => by
  have : n = 0 := by simpa using h
  subst this
  rfl
 | c + 1, n, h => by
  rw [numB_succ, numL_snoc, numL_numB c (n / 256) (by rw [Nat.pow_succ] at h; omega)]
  have : (UInt8.ofNat n).toNat = n % 256 := by simp
  rw [this]
  omega
def nbPart (c n t : Nat) : Array Value := ((List.range c).map fun i => if c ≤ i + t then b8 (UInt8.ofNat (n / 256 ^ (c - 1 - i))) else .int .u8 0).toArray
theorem nbPart_size (c n t : Nat) : (nbPart c n t).size = c := by simp [nbPart]
theorem nbPart_get (c n t i : Nat) (h : i < c) : (nbPart c n t)[i]? = some (if c ≤ i + t then b8 (UInt8.ofNat (n / 256 ^ (c - 1 - i))) else .int .u8 0) := by simp [nbPart, h]
theorem nbPart_succ (c n t : Nat) (h : t < c) : (nbPart c n t).setIfInBounds (c - 1 - t) (b8 (UInt8.ofNat (n / 256 ^ t))) = nbPart c n (t + 1) := by
 apply Array.ext_getElem?
 intro i
 by_cases hi : i < c
 ·rw [nbPart_get _ _ _ _ hi, Array.getElem?_setIfInBounds, nbPart_get _ _ _ _ hi, nbPart_size]
  by_cases e : c - 1 - t = i
  ·rw [if_pos e, if_pos (by omega), if_pos (by omega), show c - 1 - i = t by omega]
  ·rw [if_neg e]
   by_cases g : c ≤ i + t
   ·rw [if_pos g, if_pos (by omega)]
   ·rw [if_neg g, if_neg (by omega)]
 ·rw [Array.getElem?_eq_none (by rw [Array.size_setIfInBounds, nbPart_size]; omega), Array.getElem?_eq_none (by rw [nbPart_size]; omega)]
theorem nbPart_zero (c n : Nat) : nbPart c n 0 = madeCells #[.int .u8 0] (c * 1) := by
 apply Array.ext_getElem?
 intro i
 by_cases hi : i < c
 ·rw [nbPart_get _ _ _ _ hi, if_neg (by omega)]
  unfold madeCells
  rw [Array.getElem?_map, Array.getElem?_eq_getElem (by rw [Array.size_range]; omega)]
  simp [Nat.mod_one]
 ·rw [Array.getElem?_eq_none (by rw [nbPart_size]; omega), Array.getElem?_eq_none (by rw [size_madeCells]; omega)]
theorem nbPart_full (c n : Nat) : nbPart c n c = ((numB c n).map b8).toArray := by
 unfold nbPart numB
 rw [List.map_map]
 congr 1
 apply List.map_congr_left
 intro i hi
 rw [if_pos (by omega)]
 rfl
theorem run_make8 (w : World) (c : Nat) (hc : c ≤ 8) :
  (Instr.makeSlice 63 (.int .i64 (c : Int)) (.int .i64 (c : Int))).run Tryz.prog w = .ok (.slice (some ⟨w.heap.size, 0, none⟩) c c) (w.alloc (Obj.cells (madeCells #[.int .u8 0] (c * 1)) 5)) := by
 obtain ⟨i0, hi, hz0, hz1, hz2⟩ := info_parts info8
 have := run_make (P := Tryz.prog) w 63 5 i0 _ Tryz.underlying63 hi hz0 .i64 .i64 (c : Int) (c : Int) (by omega) (by omega) (by rw [hz2]; omega) (by omega)
 rw [hz1, Int.toNat_natCast] at this
 exact this
theorem byte_of (n t : Nat) : Value.int .u8 ((n : Int) / 2 ^ (8 * t) % 256) = b8 (UInt8.ofNat (n / 256 ^ t)) := by
 have h1 : (UInt8.ofNat (n / 256 ^ t)).toNat = n / 256 ^ t % 256 := by simp
 have h2 : (2 : Int) ^ (8 * t) = ((256 ^ t : Nat) : Int) := by
  rw [Int.pow_mul]
  simp
 unfold b8
 rw [h1, h2]
 simp
set_option maxHeartbeats 800000 in
theorem numberBy_any (w : World) (c n : Nat) (hc1 : 1 ≤ c) (hc : c ≤ 8) :
  Calls Tryz.prog 100 #[.int .i64 c, .int .i64 n] w fun e w' => e = .returned (str (numB c n)) ∧ Below w.heap.size w w' := by
 have hmk := run_make8 w c hc
 rw [← nbPart_zero c n] at hmk
 have HS := Lib.hid (nbPart_succ c n)
 have HF := Lib.hid (nbPart_full c n)
 have HG := Lib.hid (nbPart_get c n)
 have hconv : (convert 63 9 (.slice (some ⟨w.heap.size, 0, none⟩) c c)).run Tryz.prog (w.alloc (.cells (nbPart c n c) 5)) = .ok (str (numB c n)) (w.alloc (.cells (nbPart c n c) 5)) := by
  rw [nbPart_full]
  exact ofBytes (P := Tryz.prog) 9 63 5 _ w.heap.size c c (numB c n) (numB_len c n).symm Tryz.underlying9 Tryz.underlying63 Tryz.underlying5 (row8_new w _ _)
 have HC := Lib.hid hconv
 clear hconv
 go_enter Tryz.func100, Tryz.ntmps100
 go_wp2
 go_loopw [6, 11] (fun _ i wr => ∃ t : Nat, i = .int .i64 t ∧ t ≤ c ∧ wr = w.alloc (.cells (nbPart c n t) 5)) (fun _ i _ => c - (intOf i).toNat)
 case atStart => exact ⟨0, rfl, by omega, rfl⟩
 case round =>
  obtain ⟨t, rfl, ht, rfl⟩ := hrel
  by_cases hlt : t < c
  ·have q1 : (t : Int) < c := by omega
   have q2 : (0 : Int) ≤ t := by omega
   have hw1 : IntKind.i64.wrap ((c : Int) - 1) = (c : Int) - 1 := IntWalk.i64_in _ (by omega)
   have hw2 : IntKind.i64.wrap ((c : Int) - 1 - t) = (c : Int) - 1 - t := IntWalk.i64_in _ (by omega)
   have hw3 : IntKind.i64.wrap (8 * (t : Int)) = 8 * (t : Int) := IntWalk.i64_in _ (by omega)
   have hg := HG.out t (c - 1 - t) (by omega)
   go_wp2
   go_roundw
   case rel => exact ⟨t + 1, by go_num, by omega, by rw [byte_of, HS.out t hlt]⟩
   case measure => simp [intOf]; omega
  ·have q2 : ¬ (t : Int) < c := by omega
   have e : t = c := by omega
   subst e
   have hcv := HC.out
   unfold str at hcv
   go_wp2
   go_ret
   exact ⟨rfl, (Below.refl _ w).alloc (Nat.le_refl _) _⟩
theorem numL_take_le (l : List UInt8) (t : Nat) : numL (l.take t) ≤ numL l := by
 have h : l = l.take t ++ l.drop t := (List.take_append_drop t l).symm
 have key : ∀ (r : List UInt8) (a : Nat), a ≤ r.foldl (fun n b => n * 256 + b.toNat) a := by
  intro r
  induction r with
  | nil => exact fun a => Nat.le_refl _
  | cons b r ih => exact fun a => Nat.le_trans (by omega) (ih (a * 256 + b.toNat))
 have e : numL l = (l.drop t).foldl (fun n b => n * 256 + b.toNat) (numL (l.take t)) := by
  conv => lhs; rw [h]
  unfold numL
  rw [List.foldl_append]
 rw [e]
 exact key _ _
theorem or_step (a b : Nat) (hb : b < 256) (ha : a * 256 + b ≤ 9223372036854775807) : bits .or .i64 (wrap64 ((a : Int) * 256)) (wrap64 (b : Int)) = ((a * 256 + b : Nat) : Int) := by
 have e1 : wrap64 ((a : Int) * 256) = (a : Int) * 256 := by unfold wrap64; omega
 have e2 : wrap64 (b : Int) = (b : Int) := by unfold wrap64; omega
 rw [e1, e2]
 have := bits_join .i64 63 (by decide) (fun n h0 h1 => IntWalk.i64_in _ (by omega)) 8 ((a : Int) * 256) (b : Int) (by omega) (by omega) (by omega) (by omega) (by omega) (by omega)
 rw [this]
 omega
set_option maxHeartbeats 800000 in
theorem numberOf_any (w : World) (s : ByteArray) (h8 : s.size ≤ 8) (hv : numL s.data.toList ≤ 9223372036854775807) :
  Calls Tryz.prog 82 #[.string s] w fun e w' => e = .returned (.int .i64 (numL s.data.toList)) ∧ w = w' := by
 have HT := Lib.hid (numL_take_le s.data.toList)
 have HV := Lib.hid hv
 have hsz : s.data.toList.length = s.size := by simp
 have HZ := Lib.hid hsz
 clear hv hsz
 go_enter Tryz.func82, Tryz.ntmps82
 go_wp2
 go_loopw [3, 4, 7] (fun n _ i wr => ∃ t : Nat, i = .int .i64 t ∧ t ≤ s.size ∧ n = .int .i64 (numL (s.data.toList.take t)) ∧ wr = w) (fun _ _ i _ => s.size - (intOf i).toNat)
 case atStart => exact ⟨0, rfl, by omega, by simp [numL], rfl⟩
 case round =>
  obtain ⟨t, rfl, ht, rfl, rfl⟩ := hrel
  by_cases hlt : t < s.size
  ·have q1 : (t : Int) < s.size := by omega
   have q2 : (0 : Int) ≤ t := by omega
   have hk : t < s.data.toList.length := by rw [HZ.out]; exact hlt
   have hst : numL (s.data.toList.take (t + 1)) = numL (s.data.toList.take t) * 256 + (s[t]).toNat := by
    rw [List.take_succ_eq_append_getElem hk, numL_snoc]
    rfl
   have hle := HT.out (t + 1)
   rw [hst] at hle
   have HE := Lib.hid (or_step (numL (s.data.toList.take t)) (s[t]).toNat (s[t]).toNat_lt (Nat.le_trans hle HV.out))
   have HS := Lib.hid hst
   clear hst hle
   go_wp2
   go_roundw
   case rel => exact ⟨t + 1, by go_num, by omega, by rw [HE.out, ← HS.out], trivial⟩
   case measure => simp [intOf]; omega
  ·have q2 : ¬ (t : Int) < s.size := by omega
   go_wp2
   go_ret
   refine ⟨?_, rfl⟩
   rw [List.take_of_length_le (by rw [HZ.out]; omega)]
   rfl
end Go.Proofs.YtlommddabccdeaaGreatDoor

namespace Go.Proofs.YtlommddabccdeaaGreatDoor
open Go.ChangeShapes Go.WideShapes Go.ChangeAt Go.RowKit

def padL (l : List UInt8) : List UInt8 := l ++ List.replicate ((64 - l.length % 64) % 64) 0
theorem padL_len (l : List UInt8) : (padL l).length = (l.length + 63) / 64 * 64 := by
  unfold padL
  rw [List.length_append, List.length_replicate]
  omega
def bOf (l : List UInt8) : ByteArray := ⟨l.toArray⟩
theorem bOf_list (l : List UInt8) : (bOf l).data.toList = l := by simp [bOf]
theorem bOf_size (l : List UInt8) : (bOf l).size = l.length := by simp [bOf, ByteArray.size]
theorem bOf_self (s : ByteArray) : bOf s.data.toList = s := by unfold bOf; simp
theorem bOf_append (a b : List UInt8) : bOf a ++ bOf b = bOf (a ++ b) := by
  apply ByteArray.ext
  simp [bOf]
theorem str_bOf (l : List UInt8) : str l = .string (bOf l) := rfl
theorem repeatL_zero : ∀ c : Nat, Lib.repeatL [(0 : UInt8)] c = List.replicate c 0
  | 0 => rfl
  | c + 1 => by
    have := repeatL_zero c
    simp [Lib.repeatL, this, List.replicate_succ] at *
theorem takes_any (w : World) (s : ByteArray) (hs : s.size ≤ 1000000) :
    Calls Tryz.prog 108 #[.string s] w fun e w' => e = .returned (.int .i64 ((2 + s.size : Nat) : Int)) ∧ w = w' := by
  have hw : IntKind.i64.wrap (2 + (s.size : Int)) = ((2 + s.size : Nat) : Int) := by rw [IntWalk.i64_in _ (by omega)]; omega
  generalize ((2 + s.size : Nat) : Int) = X at *
  clear hs
  go_enter Tryz.func108, Tryz.ntmps108
  go_wp2
  go_ret
  exact ⟨rfl, rfl⟩
theorem padded_any (w : World) (s : ByteArray) (hs : s.size ≤ 1000000) :
    Calls Tryz.prog 99 #[.string s] w fun e w' => e = .returned (str (padL s.data.toList)) ∧ Below w.heap.size w w' := by
  have hl : s.data.toList.length = s.size := by simp
  by_cases h0 : s.size % 64 = 0
  · have HE : Hid (padL s.data.toList = s.data.toList) := Lib.hid (by unfold padL; rw [hl, h0]; simp)
    have HS : Hid (str s.data.toList = .string s) := Lib.hid (str_self s)
    clear hl hs
    go_enter Tryz.func99, Tryz.ntmps99
    go_wp2
    go_ret
    exact ⟨by rw [HE.out, HS.out]; rfl, Below.refl _ _⟩
  · obtain ⟨r, hr⟩ : ∃ r, s.size % 64 = r := ⟨_, rfl⟩
    have hr64 : r < 64 := by omega
    have HE : Hid (str (padL s.data.toList) = .string (s ++ bOf (List.replicate (64 - r) 0))) := Lib.hid (by
      rw [str_bOf, ← bOf_self s, bOf_append, bOf_self]
      unfold padL
      rw [hl, hr, show (64 - r) % 64 = 64 - r by omega])
    have HR : Hid (Calls Tryz.prog 128 #[.string ⟨#[0]⟩, .int .i64 ((64 - r : Nat) : Int)] w fun e w' => e = .returned (.string (bOf (List.replicate (64 - r) 0))) ∧ Below w.heap.size w w') := Lib.hid (by
      have h := Any.strings_Repeat Tryz.lays105 Tryz.Builder_Extra_105 (⟨#[0]⟩ : ByteArray) (64 - r) w (by omega) (by show 1 * (64 - r) ≤ _; omega)
      have e : Lib.repeatL (⟨#[0]⟩ : ByteArray).data.toList (64 - r) = List.replicate (64 - r) 0 := repeatL_zero _
      rw [e] at h
      exact h)
    have hsz : ¬ 9223372036854775807 < s.size + (bOf (List.replicate (64 - r) 0)).size := by rw [bOf_size, List.length_replicate]; omega
    have hw : IntKind.i64.wrap (64 - (r : Int)) = ((64 - r : Nat) : Int) := by rw [IntWalk.i64_in _ (by omega)]; omega
    have q1 : (r : Int) > 0 := by omega
    have hr2 : (s.size : Int) % 64 = (r : Int) := by omega
    rw [HE.out]
    generalize bOf (List.replicate (64 - r) 0) = Z at *
    generalize ((64 - r : Nat) : Int) = R at *
    clear hl h0 hr hr64
    go_enter Tryz.func99, Tryz.ntmps99
    go_wp2_with (go_at_call 128; refine HR.out.mono ?_; rintro e w2 ⟨rfl, hb2⟩; have HB2 := Lib.hid hb2; clear hb2)
    go_ret
    exact ⟨rfl, HB2.out⟩
def recL (l : List UInt8) : List UInt8 := numB 2 l.length ++ l
theorem recL_len (l : List UInt8) : (recL l).length = 2 + l.length := by simp [recL, numB_len]
theorem recordBytes_any (w : World) (s : ByteArray) (hs : s.size ≤ 1000000) :
    Calls Tryz.prog 132 #[.string s] w fun e w' => e = .returned (str (recL s.data.toList)) ∧ Below w.heap.size w w' := by
  have hl : s.data.toList.length = s.size := by simp
  have HE : Hid (str (recL s.data.toList) = .string (bOf (numB 2 s.size) ++ s)) := Lib.hid (by
    rw [str_bOf, ← bOf_self s, bOf_append, bOf_self]
    unfold recL
    rw [hl])
  have HN := Lib.hid (numberBy_any w 2 s.size (by decide) (by decide))
  simp only [str_bOf] at HN
  have hz : (bOf (numB 2 s.size)).size = 2 := by rw [bOf_size, numB_len]
  have hsz : ¬ 9223372036854775807 < (bOf (numB 2 s.size)).size + s.size := by omega
  rw [HE.out]
  generalize bOf (numB 2 s.size) = Z at *
  clear hl hs hz
  go_enter Tryz.func132, Tryz.ntmps132
  go_wp2_with (go_at_call 100; refine HN.out.mono ?_; rintro e w2 ⟨rfl, hb2⟩; have HB2 := Lib.hid hb2; clear hb2)
  go_ret
  exact ⟨rfl, HB2.out⟩
structure HeadV where
  gen : Nat
  area : Nat
  used : Nat
def headL (h : HeadV) : List UInt8 := padL ((([84, 74, 48, 49] ++ numB 8 h.gen) ++ numB 1 h.area) ++ numB 4 h.used)
theorem headL_len (h : HeadV) : (headL h).length = 64 := by
  unfold headL
  rw [padL_len]
  simp [numB_len]
def hAgg (h : HeadV) : Value := .agg #[.int .i64 h.gen, .int .i64 h.area, .int .i64 h.used]
set_option maxHeartbeats 800000 in
theorem headText_any (w : World) (h : HeadV) :
    Calls Tryz.prog 63 #[hAgg h] w fun e w' => e = .returned (str (headL h)) ∧ Below w.heap.size w w' := by
  have HN1 : Hid (∀ W, Calls Tryz.prog 100 #[.int .i64 8, .int .i64 h.gen] W fun e w' => e = .returned (.string (bOf (numB 8 h.gen))) ∧ Below W.heap.size W w') := Lib.hid fun W => numberBy_any W 8 h.gen (by decide) (by decide)
  have HN2 : Hid (∀ W, Calls Tryz.prog 100 #[.int .i64 1, .int .i64 h.area] W fun e w' => e = .returned (.string (bOf (numB 1 h.area))) ∧ Below W.heap.size W w') := Lib.hid fun W => numberBy_any W 1 h.area (by decide) (by decide)
  have HN3 : Hid (∀ W, Calls Tryz.prog 100 #[.int .i64 4, .int .i64 h.used] W fun e w' => e = .returned (.string (bOf (numB 4 h.used))) ∧ Below W.heap.size W w') := Lib.hid fun W => numberBy_any W 4 h.used (by decide) (by decide)
  have e1 : ((⟨#[84, 74, 48, 49]⟩ : ByteArray) ++ bOf (numB 8 h.gen)) ++ bOf (numB 1 h.area) ++ bOf (numB 4 h.used) = bOf ((([84, 74, 48, 49] ++ numB 8 h.gen) ++ numB 1 h.area) ++ numB 4 h.used) := by
    rw [show (⟨#[84, 74, 48, 49]⟩ : ByteArray) = bOf [84, 74, 48, 49] from rfl, bOf_append, bOf_append, bOf_append]
  have HP : Hid (∀ W, Calls Tryz.prog 99 #[.string (((⟨#[84, 74, 48, 49]⟩ : ByteArray) ++ bOf (numB 8 h.gen)) ++ bOf (numB 1 h.area) ++ bOf (numB 4 h.used))] W fun e w' => e = .returned (str (headL h)) ∧ Below W.heap.size W w') := Lib.hid fun W => by
    have := padded_any W (bOf ((([84, 74, 48, 49] ++ numB 8 h.gen) ++ numB 1 h.area) ++ numB 4 h.used)) (by rw [bOf_size]; simp [numB_len])
    rw [bOf_list] at this
    rw [e1]
    exact this
  have z1 : (bOf (numB 8 h.gen)).size = 8 := by rw [bOf_size, numB_len]
  have z2 : (bOf (numB 1 h.area)).size = 1 := by rw [bOf_size, numB_len]
  have z3 : (bOf (numB 4 h.used)).size = 4 := by rw [bOf_size, numB_len]
  have HB0 : Hid (∀ t, Below w.heap.size w (w.alloc (.cells #[.int .i64 h.gen, .int .i64 h.area, .int .i64 h.used] t)).drew) := Lib.hid fun t => ((Below.refl _ w).alloc (Nat.le_refl _) _).drew
  have HKP : Hid (∀ W W' : World, (Below w.heap.size w W ∧ W.cell? ⟨w.heap.size, 0, none⟩ = some (.int .i64 h.gen) ∧ W.cell? ⟨w.heap.size, 1, none⟩ = some (.int .i64 h.area) ∧ W.cell? ⟨w.heap.size, 2, none⟩ = some (.int .i64 h.used)) → Below W.heap.size W W' → (Below w.heap.size w W' ∧ W'.cell? ⟨w.heap.size, 0, none⟩ = some (.int .i64 h.gen) ∧ W'.cell? ⟨w.heap.size, 1, none⟩ = some (.int .i64 h.area) ∧ W'.cell? ⟨w.heap.size, 2, none⟩ = some (.int .i64 h.used))) := Lib.hid fun W W' hS hb => by
    obtain ⟨h0, h1, h2, h3⟩ := hS
    have hlt : w.heap.size < W.heap.size := World.block_lt_of_cell? W _ h1
    refine ⟨h0.trans (hb.mono (by omega)), ?_, ?_, ?_⟩
    · rw [hb.cell (p := ⟨w.heap.size, 0, none⟩) hlt]; exact h1
    · rw [hb.cell (p := ⟨w.heap.size, 1, none⟩) hlt]; exact h2
    · rw [hb.cell (p := ⟨w.heap.size, 2, none⟩) hlt]; exact h3
  clear e1
  unfold hAgg
  obtain ⟨gen, area, used⟩ := h
  simp only at *
  generalize bOf (numB 8 gen) = Z1 at *
  generalize bOf (numB 1 area) = Z2 at *
  generalize bOf (numB 4 used) = Z3 at *
  have hsz1 : ¬ 9223372036854775807 < (⟨#[84, 74, 48, 49]⟩ : ByteArray).size + Z1.size := by rw [z1]; decide
  have hs2 : ((⟨#[84, 74, 48, 49]⟩ : ByteArray) ++ Z1).size = 12 := by rw [ByteArray.size_append, z1]; rfl
  have hsz2 : ¬ 9223372036854775807 < ((⟨#[84, 74, 48, 49]⟩ : ByteArray) ++ Z1).size + Z2.size := by rw [hs2, z2]; decide
  have hs3 : ((⟨#[84, 74, 48, 49]⟩ : ByteArray) ++ Z1 ++ Z2).size = 13 := by rw [ByteArray.size_append, hs2, z2]
  have hsz3 : ¬ 9223372036854775807 < ((⟨#[84, 74, 48, 49]⟩ : ByteArray) ++ Z1 ++ Z2).size + Z3.size := by rw [hs3, z3]; decide
  clear hs2 hs3
  go_enter Tryz.func63, Tryz.ntmps63
  go_wp2
  go_region_held3 (fun W => Below w.heap.size w W ∧ W.cell? ⟨w.heap.size, 0, none⟩ = some (.int .i64 gen) ∧ W.cell? ⟨w.heap.size, 1, none⟩ = some (.int .i64 area) ∧ W.cell? ⟨w.heap.size, 2, none⟩ = some (.int .i64 used)) (first | exact KS.out | exact ⟨HB0.out _, by simp, by simp, by simp⟩) (first
    | (go_at_call 100; (with_reducible refine (HN1.out _).mono ?_); rintro e w2 ⟨rfl, hb2⟩; have KS := Lib.hid (HKP.out _ _ (by assumption) hb2); clear hb2; dsimp only)
    | (go_at_call 100; (with_reducible refine (HN2.out _).mono ?_); rintro e w2 ⟨rfl, hb2⟩; have KS := Lib.hid (HKP.out _ _ (by assumption) hb2); clear hb2; dsimp only)
    | (go_at_call 100; (with_reducible refine (HN3.out _).mono ?_); rintro e w2 ⟨rfl, hb2⟩; have KS := Lib.hid (HKP.out _ _ (by assumption) hb2); clear hb2; dsimp only)
    | (go_at_call 99; (with_reducible refine (HP.out _).mono ?_); rintro e w2 ⟨rfl, hb2⟩; have KS := Lib.hid (HKP.out _ _ (by assumption) hb2); clear hb2; dsimp only)
    | fail)
  go_wp2
  go_ret
  exact ⟨rfl, KS.out.1⟩
theorem results_cell_tmp_of {P : Program} {fn : Func} {p u : Tmp} {ty : TypeId} (h : fn.results = #[.cell p ty, .tmp u]) (tmps : Array Value) (w : World) (a : Addr) (v x : Value) (ha : tmps.getD p undef = .pointer (some a)) (hl : (loadVar ty a).run P w = .ok v w) (hx : tmps.getD u undef = x) : (results fn tmps).run P w = .ok (.tuple #[v, x]) w := by
  rw [results_cell_tmp h, ha, hx]
  simp [asAddr, hl]
theorem ext_list (s : ByteArray) (a b : Nat) : (s.extract a b).data.toList = (s.data.toList.take b).drop a := by
  rw [Lib.extract_data, List.drop_take]
set_option maxHeartbeats 800000 in
theorem headOf_any (w : World) (s : ByteArray) (h64 : s.size = 64) (h : HeadV) (hg : numL ((s.data.toList.take 12).drop 4) = h.gen) (ha : numL ((s.data.toList.take 13).drop 12) = h.area) (hu : numL ((s.data.toList.take 17).drop 13) = h.used) (hle : h.gen ≤ 4611686018427387904) (ha2 : h.area < 2) (hu2 : h.used ≤ 4294967296) (B : Bool) (hB : ((bOf (headL h)).toList == s.toList) = B) :
    Calls Tryz.prog 55 #[.string s] w fun e w' => e = .returned (.tuple #[hAgg h, .bool B]) ∧ Below w.heap.size w w' := by
  obtain ⟨s4, h4⟩ : ∃ s4, s.extract 4 64 = s4 := ⟨_, rfl⟩
  obtain ⟨s8, h8⟩ : ∃ s8, s4.extract 0 8 = s8 := ⟨_, rfl⟩
  obtain ⟨s12, h12⟩ : ∃ s12, s4.extract 8 60 = s12 := ⟨_, rfl⟩
  obtain ⟨s1, h1⟩ : ∃ s1, s12.extract 0 1 = s1 := ⟨_, rfl⟩
  obtain ⟨s5, h5⟩ : ∃ s5, s12.extract 1 5 = s5 := ⟨_, rfl⟩
  have z4 : s4.size = 60 := by rw [← h4, ByteArray.size_extract]; omega
  have z12 : s12.size = 52 := by rw [← h12, ByteArray.size_extract]; omega
  have l : s.data.toList.length = 64 := by simpa using h64
  have l4 : s4.data.toList = s.data.toList.drop 4 := by rw [← h4, ext_list, List.take_of_length_le (by rw [l]; exact Nat.le_refl _)]
  have l12 : s12.data.toList = s.data.toList.drop 12 := by
    rw [← h12, ext_list, l4, List.take_of_length_le (by rw [List.length_drop, l]; exact Nat.le_refl _), List.drop_drop]
  have l8 : s8.data.toList = (s.data.toList.take 12).drop 4 := by rw [← h8, ext_list, l4, List.drop_zero, List.take_drop]
  have l1 : s1.data.toList = (s.data.toList.take 13).drop 12 := by rw [← h1, ext_list, l12, List.drop_zero, List.take_drop]
  have l5 : s5.data.toList = (s.data.toList.take 17).drop 13 := by rw [← h5, ext_list, l12, List.take_drop, List.drop_drop]
  have HN1 : Hid (∀ W, Calls Tryz.prog 82 #[.string s8] W fun e w' => e = .returned (.int .i64 h.gen) ∧ W = w') := Lib.hid fun W => by
    have := numberOf_any W s8 (by rw [← h8, ByteArray.size_extract]; omega) (by rw [l8, hg]; omega)
    rw [l8, hg] at this
    exact this
  have HN2 : Hid (∀ W, Calls Tryz.prog 82 #[.string s1] W fun e w' => e = .returned (.int .i64 h.area) ∧ W = w') := Lib.hid fun W => by
    have := numberOf_any W s1 (by rw [← h1, ByteArray.size_extract]; omega) (by rw [l1, ha]; omega)
    rw [l1, ha] at this
    exact this
  have HN3 : Hid (∀ W, Calls Tryz.prog 82 #[.string s5] W fun e w' => e = .returned (.int .i64 h.used) ∧ W = w') := Lib.hid fun W => by
    have := numberOf_any W s5 (by rw [← h5, ByteArray.size_extract]; omega) (by rw [l5, hu]; omega)
    rw [l5, hu] at this
    exact this
  have HT := Lib.hid fun W => headText_any W h
  simp only [str_bOf] at HT
  have q1 : (h.gen : Int) ≥ 0 := by omega
  have q2 : (h.gen : Int) ≤ 4611686018427387904 := by omega
  have q3 : (h.area : Int) < 2 := by omega
  clear l l4 l12 l8 l1 l5 hg ha hu hle ha2 hu2
  generalize bOf (headL h) = HT2 at *
  obtain ⟨gen, area, used⟩ := h
  unfold hAgg at *
  simp only at *
  generalize (gen : Int) = G at *
  generalize (area : Int) = A at *
  generalize (used : Int) = U at *
  go_enter Tryz.func55, Tryz.ntmps55
  go_wp2_with (first
    | (go_at_call 82; (with_reducible refine (HN1.out _).mono ?_); rintro e w2 ⟨rfl, rfl⟩)
    | (go_at_call 82; (with_reducible refine (HN2.out _).mono ?_); rintro e w2 ⟨rfl, rfl⟩)
    | (go_at_call 82; (with_reducible refine (HN3.out _).mono ?_); rintro e w2 ⟨rfl, rfl⟩))
  obtain ⟨W2, hW2⟩ : ∃ W2, (w.alloc (Obj.cells #[Value.int IntKind.i64 0, Value.int IntKind.i64 0, Value.int IntKind.i64 0] 85)).alloc (Obj.cells #[Value.int IntKind.i64 G, Value.int IntKind.i64 A, Value.int IntKind.i64 U] 85) = W2 := ⟨_, rfl⟩
  have HB2 : Hid (Below w.heap.size w W2) := Lib.hid (by rw [← hW2]; exact ((Below.refl _ w).alloc (Nat.le_refl _) _).alloc (by simp) _)
  obtain ⟨n, hn⟩ : ∃ n, w.heap.size = n := ⟨_, rfl⟩
  have b1 : W2.heap[n + 1]? = some (.cells #[Value.int IntKind.i64 G, Value.int IntKind.i64 A, Value.int IntKind.i64 U] 85 (0, 0)) := by
    rw [← hW2, ← hn]
    have := heap_alloc_new (w.alloc (Obj.cells #[Value.int IntKind.i64 0, Value.int IntKind.i64 0, Value.int IntKind.i64 0] 85)) (Obj.cells #[Value.int IntKind.i64 G, Value.int IntKind.i64 A, Value.int IntKind.i64 U] 85)
    rw [World.size_alloc] at this
    exact this
  have b0 : W2.heap[n]? = some (.cells #[Value.int IntKind.i64 0, Value.int IntKind.i64 0, Value.int IntKind.i64 0] 85 (0, 0)) := by
    rw [← hW2, ← hn, heap_alloc_old _ _ (by simp)]
    exact heap_alloc_new w _
  rw [hW2, hn]
  rw [hn] at HB2
  have hlt : n + 1 < W2.heap.size := lt_of_heap b1
  have HK : Hid (∀ W3, Below W2.drew.heap.size W2.drew W3 → Below n w W3 ∧ W3.heap[n + 1]? = some (.cells #[Value.int IntKind.i64 G, Value.int IntKind.i64 A, Value.int IntKind.i64 U] 85 (0, 0)) ∧ W3.heap[n]? = some (.cells #[Value.int IntKind.i64 0, Value.int IntKind.i64 0, Value.int IntKind.i64 0] 85 (0, 0))) := Lib.hid fun W3 hb =>
    ⟨HB2.out.drew.trans (hb.mono (by show n ≤ W2.heap.size; omega)), by rw [hb.block _ hlt]; exact b1, by rw [hb.block _ (by show n < W2.heap.size; omega)]; exact b0⟩
  have a0 := cell_at b1 (k := 0) rfl
  have a1 := cell_at b1 (k := 1) rfl
  have a2 := cell_at b1 (k := 2) rfl
  clear hW2 b0 b1 hlt HN1 HN2 HN3
  have HNN := Lib.hid hn
  clear hn
  go_region_law (first
    | (go_simp; (with_reducible refine (HT.out _).mono ?_); rintro e w3 ⟨rfl, hb3⟩
       obtain ⟨hk1, hk2, hk3⟩ := HK.out _ hb3
       have d0 := cell_at hk2 (k := 0) rfl; have d1 := cell_at hk2 (k := 1) rfl; have d2 := cell_at hk2 (k := 2) rfl
       have e0 := cell_at hk3 (k := 0) rfl; have e1 := cell_at hk3 (k := 1) rfl; have e2 := cell_at hk3 (k := 2) rfl
       have f0 := free_at hk3 (k := 0); have f1 := free_at hk3 (k := 1); have f2 := free_at hk3 (k := 2)
       have HK1 := Lib.hid (And.intro hk1 hk3)
       clear hb3 hk1 hk2 hk3; dsimp only)
    | fail)
  all_goals
    go_wp2
    have hl := run_loadVar_row (P := Tryz.prog) _ n 85 85 _ (0, 0) _ (heap_set_at (k := 2) (heap_set_at (k := 1) (heap_set_at (k := 0) HK1.out.2 (Value.int IntKind.i64 G)) (Value.int IntKind.i64 A)) (Value.int IntKind.i64 U)) Tryz.underlying85 rfl (by kernel_rfl)
    refine bodyPost_ret (v := .tuple #[.agg #[.int .i64 G, .int .i64 A, .int .i64 U], .bool B]) ?_ rfl ?_
    · exact results_cell_tmp_of rfl _ _ _ _ _ rfl hl rfl
    · exact ⟨rfl, by rw [HNN.out]; exact ((HK1.out.1.setCell (by show n ≤ n; omega) _).setCell (by show n ≤ n; omega) _).setCell (by show n ≤ n; omega) _⟩
end Go.Proofs.YtlommddabccdeaaGreatDoor
