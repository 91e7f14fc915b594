/-
  JnlObj, JnlMath.
-/
import Derived.Test.YtlommddabccdeaaGreatDoorQJnlRec
namespace Go.Proofs.YtlommddabccdeaaGreatDoor
open Go.ChangeShapes Go.WideShapes Go.ChangeAt Go.RowKit

def JnlAt (w : World) (J p : Nat) (h : HeadV) (doubt : Bool) : Prop :=
 w.heap[J]? = some (.cells #[.pointer (some ⟨p, 0, none⟩), .int .i64 h.gen, .int .i64 h.area, .int .i64 h.used, .bool doubt] 87 (0, 0))
def areaN (d : DskV) : Nat := (d.ws.length - 1) / 2
theorem otherArea_any (w : World) (a : Nat) (ha : a < 2) :
  Calls Tryz.prog 77 #[.int .i64 a] w fun e w' => e = .returned (.int .i64 ((1 - a : Nat) : Int)) ∧ w = w' := by
 have hw : IntKind.i64.wrap (1 - (a : Int)) = ((1 - a : Nat) : Int) := by rw [IntWalk.i64_in _ (by omega)]; omega
 generalize ((1 - a : Nat) : Int) = X at *
 clear ha
 go_enter Tryz.func77, Tryz.ntmps77
 go_wp2
 go_ret
 exact ⟨rfl, rfl⟩
theorem areaBlocks_any (w : World) (J : Nat) (D : DskP) (d : DskV) (h : HeadV) (q : Bool) (hJ : JnlAt w J D.p h q) (hD : DskAt w D d) (hok : DskOk d) :
  Calls Tryz.prog 83 #[.pointer (some ⟨J, 0, none⟩)] w fun e w' => e = .returned (.int .i64 (areaN d)) ∧ w = w' := by
 have c0 := cell_at hJ (k := 0) rfl
 have HS := Lib.hid (dsize_any w D d hD)
 have hlo := hok.lo
 have hhi := hok.hi
 unfold areaN
 clear hJ hD hok
 generalize d.ws.length = B at *
 have hw : IntKind.i64.wrap ((B : Int) - 1) = (B : Int) - 1 := IntWalk.i64_in _ (by omega)
 have hq : ((B : Int) - 1) / 2 = (((B - 1) / 2 : Nat) : Int) := by omega
 have h1 : (0 : Int) ≤ (B : Int) - 1 := by omega
 go_enter Tryz.func83, Tryz.ntmps83
 go_wp2_with (go_at_call 110; refine HS.out.mono ?_; rintro e w2 ⟨rfl, rfl⟩)
 go_ret
 exact ⟨by rw [← hq]; rfl, rfl⟩
theorem areaN_le {d : DskV} (hok : DskOk d) : 3 ≤ areaN d ∧ areaN d ≤ 2047 ∧ 1 + 2 * areaN d ≤ d.ws.length := by
 have := hok.lo
 have := hok.hi
 unfold areaN
 omega
theorem areaBytes_any (w : World) (J : Nat) (D : DskP) (d : DskV) (h : HeadV) (q : Bool) (hJ : JnlAt w J D.p h q) (hD : DskAt w D d) (hok : DskOk d) :
  Calls Tryz.prog 56 #[.pointer (some ⟨J, 0, none⟩)] w fun e w' => e = .returned (.int .i64 ((areaN d * 64 : Nat) : Int)) ∧ w = w' := by
 have HS := Lib.hid (areaBlocks_any w J D d h q hJ hD hok)
 have hA := areaN_le hok
 clear hJ hD hok
 generalize areaN d = A at *
 have hw : IntKind.i64.wrap ((A : Int) * 64) = ((A * 64 : Nat) : Int) := by rw [IntWalk.i64_in _ (by omega)]; omega
 generalize ((A * 64 : Nat) : Int) = R at *
 go_enter Tryz.func56, Tryz.ntmps56
 go_wp2_with (go_at_call 83; refine HS.out.mono ?_; rintro e w2 ⟨rfl, rfl⟩)
 go_ret
 exact ⟨rfl, rfl⟩
def blkN (d : DskV) (area k : Nat) : Nat := 1 + area * areaN d + k / 64
theorem blockAt_any (w : World) (J : Nat) (D : DskP) (d : DskV) (h : HeadV) (q : Bool) (hJ : JnlAt w J D.p h q) (hD : DskAt w D d) (hok : DskOk d) (area k : Nat) (ha : area < 2) (hk : k ≤ 1000000) :
  Calls Tryz.prog 112 #[.pointer (some ⟨J, 0, none⟩), .int .i64 area, .int .i64 k] w fun e w' => e = .returned (.int .i64 (blkN d area k)) ∧ w = w' := by
 have HS := Lib.hid (areaBlocks_any w J D d h q hJ hD hok)
 have hA := areaN_le hok
 unfold blkN
 clear hJ hD hok
 generalize areaN d = A at *
 obtain ⟨M, hM⟩ : ∃ M, area * A = M := ⟨_, rfl⟩
 have hM2 : M ≤ 2047 := by
  rw [← hM]
  have : area * A ≤ 1 * A := Nat.mul_le_mul_right _ (by omega)
  omega
 have hw1 : IntKind.i64.wrap ((area : Int) * A) = M := by
  have : (area : Int) * A = (M : Int) := by rw [← hM]; simp
  rw [this]; exact IntWalk.i64_in _ (by omega)
 have hw2 : IntKind.i64.wrap (1 + (M : Int)) = 1 + (M : Int) := IntWalk.i64_in _ (by omega)
 have hw3 : IntKind.i64.wrap (1 + (M : Int) + (k : Int) / 64) = ((1 + M + k / 64 : Nat) : Int) := by rw [IntWalk.i64_in _ (by omega)]; omega
 rw [hM]
 generalize ((1 + M + k / 64 : Nat) : Int) = R at *
 clear hM hM2
 go_enter Tryz.func112, Tryz.ntmps112
 go_wp2_with (go_at_call 83; refine HS.out.mono ?_; rintro e w2 ⟨rfl, rfl⟩)
 go_ret
 exact ⟨rfl, rfl⟩
theorem lives_any (w : World) (J : Nat) (D : DskP) (d : DskV) (h : HeadV) (q : Bool) (hJ : JnlAt w J D.p h q) (hD : DskAt w D d) :
  Calls Tryz.prog 66 #[.pointer (some ⟨J, 0, none⟩)] w fun e w' => e = .returned (.bool (!q && !d.dead)) ∧ w = w' := by
 have c0 := cell_at hJ (k := 0) rfl
 have c4 := cell_at hJ (k := 4) rfl
 have HS := Lib.hid (ddead_any w D d hD)
 clear hJ hD
 generalize d.dead = b at *
 cases q with
 | true =>
  go_enter Tryz.func66, Tryz.ntmps66
  go_wp2
  go_ret
  exact ⟨rfl, rfl⟩
 | false =>
  go_enter Tryz.func66, Tryz.ntmps66
  go_wp2_with (go_at_call 101; refine HS.out.mono ?_; rintro e w2 ⟨rfl, rfl⟩)
  go_ret
  exact ⟨by simp, rfl⟩
end Go.Proofs.YtlommddabccdeaaGreatDoor

namespace Go.Proofs.YtlommddabccdeaaGreatDoor
open Go.RowKit

def arN (ws : List (List UInt8)) : Nat := (ws.length - 1) / 2
def bkN (ws : List (List UInt8)) (area k : Nat) : Nat := 1 + area * arN ws + k / 64
def byteAt (ws : List (List UInt8)) (area k : Nat) : UInt8 := (ws.getD (bkN ws area k) []).getD (k % 64) 0
def bytesL (ws : List (List UInt8)) (area n : Nat) : List UInt8 := (List.range n).map (byteAt ws area)
theorem bytesL_len (ws : List (List UInt8)) (area n : Nat) : (bytesL ws area n).length = n := by simp [bytesL]
theorem bytesL_take (ws : List (List UInt8)) (area n m : Nat) (h : m ≤ n) : (bytesL ws area n).take m = bytesL ws area m := by
 unfold bytesL
 rw [← List.map_take, List.take_range, Nat.min_eq_left h]
theorem bytesL_block (ws : List (List UInt8)) (area t : Nat) (b : List UInt8) (hb : ws[bkN ws area (t * 64)]? = some b) (h64 : b.length = 64) : bytesL ws area (t * 64 + 64) = bytesL ws area (t * 64) ++ b := by
 unfold bytesL
 rw [List.range_add, List.map_append]
 congr 1
 rw [List.map_map]
 apply List.ext_getElem (by simp [h64])
 intro i h1 h2
 have hi : i < 64 := by simpa using h1
 simp only [List.getElem_map, List.getElem_range, Function.comp_apply, byteAt]
 have e1 : bkN ws area (t * 64 + i) = bkN ws area (t * 64) := by unfold bkN; omega
 have e2 : (t * 64 + i) % 64 = i := by omega
 have e3 : ws.getD (bkN ws area (t * 64)) [] = b := by simp [List.getD, hb]
 rw [e1, e2, e3]
 simp [List.getD, h2]
structure ImgOk (ws : List (List UInt8)) (h : HeadV) (rs : List (List UInt8)) : Prop where
 head : ws.getD 0 [] = headL h
 gen : h.gen ≤ 4611686018427387904
 area : h.area < 2
 used : h.used ≤ arN ws * 64
 bytes : bytesL ws h.area h.used = rs.flatMap recL
 lens : ∀ r ∈ rs, r.length ≤ 60000
theorem ImgOk.tot {ws : List (List UInt8)} {h : HeadV} {rs : List (List UInt8)} (hi : ImgOk ws h rs) : (rs.flatMap recL).length = h.used := by rw [← hi.bytes, bytesL_len]
theorem bytesL_congr {ws ws' : List (List UInt8)} {area n : Nat} (h : ∀ k, k < n → byteAt ws' area k = byteAt ws area k) : bytesL ws' area n = bytesL ws area n := by
 unfold bytesL
 apply List.map_congr_left
 intro k hk
 exact h k (List.mem_range.1 hk)
theorem arN_congr {ws ws' : List (List UInt8)} (hl : ws'.length = ws.length) : arN ws' = arN ws := by unfold arN; rw [hl]
theorem bkN_congr {ws ws' : List (List UInt8)} (hl : ws'.length = ws.length) (area k : Nat) : bkN ws' area k = bkN ws area k := by unfold bkN; rw [arN_congr hl]
theorem ImgOk.same {ws ws' : List (List UInt8)} {h : HeadV} {rs : List (List UInt8)} (hi : ImgOk ws h rs) (hl : ws'.length = ws.length) (h0 : ws'.getD 0 [] = ws.getD 0 []) (hb : ∀ k, k < h.used → byteAt ws' h.area k = byteAt ws h.area k) : ImgOk ws' h rs where
 head := h0.trans hi.head
 gen := hi.gen
 area := hi.area
 used := by rw [arN_congr hl]; exact hi.used
 bytes := (bytesL_congr hb).trans hi.bytes
 lens := hi.lens

def jlayL (ws : List (List UInt8)) (first : Nat) : List (List UInt8) → List (List UInt8)
 | [] => ws
 | b :: r => jlayL (ws.set first b) (first + 1) r
theorem jlayL_len : ∀ (bs : List (List UInt8)) (ws : List (List UInt8)) (first : Nat), (jlayL ws first bs).length = ws.length
 | [], _, _ => rfl
 | b :: r, ws, first => by rw [jlayL, jlayL_len r, List.length_set]
theorem layL_get : ∀ (bs : List (List UInt8)) (ws : List (List UInt8)) (first i : Nat), i < ws.length → (jlayL ws first bs).getD i [] = if first ≤ i ∧ i < first + bs.length then bs.getD (i - first) [] else ws.getD i []
 | [], ws, first, i, _ => by rw [jlayL, if_neg (by simp)]
 | b :: r, ws, first, i, h => by
  rw [jlayL, layL_get r _ _ i (by rw [List.length_set]; exact h)]
  by_cases e : i = first
  ·subst e
   rw [if_neg (by omega), if_pos (by simp)]
   simp [List.getD, List.getElem?_set_self h]
  ·by_cases e2 : first + 1 ≤ i ∧ i < first + 1 + r.length
   ·rw [if_pos e2, if_pos (by simp; omega), show i - first = (i - (first + 1)) + 1 by omega]
    simp [List.getD]
   ·rw [if_neg e2, if_neg (by simp; omega)]
    simp [List.getD, List.getElem?_set_ne (fun e3 => e e3.symm)]
theorem layL_snoc : ∀ (bs : List (List UInt8)) (ws : List (List UInt8)) (first : Nat) (b : List UInt8), jlayL ws first (bs ++ [b]) = (jlayL ws first bs).set (first + bs.length) b
 | [], _, _, _ => rfl
 | c :: r, ws, first, b => by
  rw [List.cons_append, jlayL, jlayL, layL_snoc r, List.length_cons]
  congr 1; omega
structure Laid (d0 : DskV) (first : Nat) (bs : List (List UInt8)) (d : DskV) : Prop where
 ok : DskOk d
 ls : d.ls = d0.ws
 ws : d.ws = jlayL d0.ws first bs
 ps : ∀ n ∈ d.ps, first ≤ n ∧ n < first + bs.length
 un : d0.armed = 0 → d.armed = 0 ∧ (d.dead = true → d0.dead = true)
theorem Laid.start {d0 : DskV} (hok : DskOk d0) (hs : d0.ps = []) (first : Nat) : Laid d0 first [] d0 where
 ok := hok
 ls := list_eq hok.len (fun i _ => hok.same i (by rw [hs]; simp))
 ws := rfl
 ps := fun n hn => by rw [hs] at hn; cases hn
 un := fun h => ⟨h, id⟩
theorem Laid.more {d0 d : DskV} {first : Nat} {bs : List (List UInt8)} (h : Laid d0 first bs d) {b : List UInt8} (hf : first + bs.length < d0.ws.length) (hb : b.length = 64) : Laid d0 first (bs ++ [b]) (d.wrote (first + bs.length) b) where
 ok := h.ok.wrote (by rw [h.ws, jlayL_len]; exact hf) hb
 ls := h.ls
 ws := by rw [layL_snoc, ← h.ws]; rfl
 ps := fun n hn => by
  have hn2 : n ∈ d.ps.erase (first + bs.length) ++ [first + bs.length] := hn
  rw [List.mem_append, List.mem_singleton] at hn2
  rw [List.length_append, List.length_singleton]
  rcases hn2 with h1 | h1
  ·have := h.ps n (List.mem_of_mem_erase h1); omega
  ·omega
 un := fun h0 => by
  have h1 := (h.un h0).1
  exact ⟨by show d.armed - 1 = 0; omega, fun hd => by have hd2 : (d.armed == 1) = true := hd; rw [h1] at hd2; cases hd2⟩
theorem Laid.act {d0 d : DskV} {first : Nat} {bs : List (List UInt8)} (h : Laid d0 first bs d) : Laid d0 first bs d.act := ⟨h.ok.act, h.ls, h.ws, h.ps, fun h0 => by
 have h1 := (h.un h0).1
 exact ⟨by show d.armed - 1 = 0; omega, fun hd => by have hd2 : (d.armed == 1) = true := hd; rw [h1] at hd2; cases hd2⟩⟩
theorem mixed_old {d0 d : DskV} {first : Nat} {bs : List (List UInt8)} (h : Laid d0 first bs d) (hf : 1 ≤ first) {hd : HeadV} {rs : List (List UInt8)} (hi : ImgOk d0.ws hd rs) (hok : DskOk d0)
  (ha : ∀ k, k < hd.used → first ≤ bkN d0.ws hd.area k → bkN d0.ws hd.area k < first + bs.length → (bs.getD (bkN d0.ws hd.area k - first) []).getD (k % 64) 0 = byteAt d0.ws hd.area k)
  {img : List (List UInt8)} (hm : Mixed d img) : ImgOk img hd rs := by
 obtain ⟨hl, hg⟩ := hm
 have hl2 : img.length = d0.ws.length := by rw [hl, h.ws, jlayL_len]
 have hg2 : ∀ i, i < d0.ws.length → img.getD i [] = (jlayL d0.ws first bs).getD i [] ∨ img.getD i [] = d0.ws.getD i [] := fun i hi => by
  rcases hg i (by rw [h.ws, jlayL_len]; exact hi) with h1 | ⟨_, h1⟩
  ·left; rw [h1, h.ws]
  ·right; rw [h1, h.ls]
 have hlo := hok.lo
 refine hi.same hl2 ?_ ?_
 ·rcases hg2 0 (by omega) with h1 | h1
  ·rw [h1, layL_get _ _ _ _ (by omega), if_neg (by omega)]
  ·exact h1
 ·intro k hk
  unfold byteAt
  rw [bkN_congr hl2]
  have hb : bkN d0.ws hd.area k < d0.ws.length := by
   have := hi.used
   have := hi.area
   unfold bkN arN at *
   rcases Nat.lt_or_ge hd.area 1 with h1 | h1
   ·have : hd.area = 0 := by omega
    rw [this]; omega
   ·have : hd.area = 1 := by omega
    rw [this]; omega
  rcases hg2 _ hb with h1 | h1
  ·rw [h1, layL_get _ _ _ _ hb]
   by_cases e : first ≤ bkN d0.ws hd.area k ∧ bkN d0.ws hd.area k < first + bs.length
   ·rw [if_pos e]; exact ha k hk e.1 e.2
   ·rw [if_neg e]
  ·rw [h1]
theorem bkN_lt {d0 : DskV} (hok : DskOk d0) {area k : Nat} (ha : area < 2) (hk : k < arN d0.ws * 64) : bkN d0.ws area k < d0.ws.length := by
 have hlo := hok.lo
 unfold bkN arN at *
 rcases Nat.lt_or_ge area 1 with h1 | h1
 ·have : area = 0 := by omega
  rw [this]; omega
 ·have : area = 1 := by omega
  rw [this]; omega
theorem mixed_self (d : DskV) : Mixed d d.ws := ⟨rfl, fun _ _ => Or.inl rfl⟩

def chunkL (l : List UInt8) (t : Nat) : List (List UInt8) := (List.range t).map fun i => (l.drop (i * 64)).take 64
theorem chunkL_len (l : List UInt8) (t : Nat) : (chunkL l t).length = t := by simp [chunkL]
theorem chunkL_succ (l : List UInt8) (t : Nat) : chunkL l (t + 1) = chunkL l t ++ [(l.drop (t * 64)).take 64] := by
 unfold chunkL
 rw [List.range_succ, List.map_append]
 rfl
theorem chunkL_get (l : List UInt8) (t i j : Nat) (hi : i < t) (hj : j < 64) : ((chunkL l t).getD i []).getD j 0 = l.getD (i * 64 + j) 0 := by
 have e : (chunkL l t).getD i [] = (l.drop (i * 64)).take 64 := by simp [chunkL, List.getD, hi]
 rw [e]
 simp only [List.getD, List.getElem?_take_of_lt hj, List.getElem?_drop]
def putL (ws : List (List UInt8)) (area behind : Nat) (s : List UInt8) : List UInt8 := padL ((ws.getD (bkN ws area behind) []).take (behind % 64) ++ recL s)
theorem putL_len {d : DskV} (hok : DskOk d) {area behind : Nat} {s : List UInt8} (ha : area < 2) (hb : behind < arN d.ws * 64) : (putL d.ws area behind s).length = (behind % 64 + 2 + s.length + 63) / 64 * 64 := by
 unfold putL
 have h1 := bkN_lt hok ha hb
 have h2 : (d.ws.getD (bkN d.ws area behind) []).length = 64 := by
  have e : d.ws.getD (bkN d.ws area behind) [] = d.ws[bkN d.ws area behind] := by simp [List.getD, h1]
  rw [e]; exact hok.w64 _ (List.getElem_mem h1)
 rw [padL_len, List.length_append, List.length_take, h2, recL_len, Nat.min_eq_left (by omega)]
 congr 2
 omega
theorem putL_get {d : DskV} (hok : DskOk d) {area behind : Nat} {s : List UInt8} (ha : area < 2) (hb : behind < arN d.ws * 64) (j : Nat) :
  (j < behind % 64 → (putL d.ws area behind s).getD j 0 = byteAt d.ws area (behind / 64 * 64 + j)) ∧ (∀ i, i < 2 + s.length → (putL d.ws area behind s).getD (behind % 64 + i) 0 = (recL s).getD i 0) := by
 have h1 := bkN_lt hok ha hb
 have h2 : (d.ws.getD (bkN d.ws area behind) []).length = 64 := by
  have e : d.ws.getD (bkN d.ws area behind) [] = d.ws[bkN d.ws area behind] := by simp [List.getD, h1]
  rw [e]; exact hok.w64 _ (List.getElem_mem h1)
 have h3 : ((d.ws.getD (bkN d.ws area behind) []).take (behind % 64)).length = behind % 64 := by rw [List.length_take, h2]; omega
 refine ⟨fun hj => ?_, fun i hi => ?_⟩
 ·unfold putL padL byteAt
  have e1 : bkN d.ws area (behind / 64 * 64 + j) = bkN d.ws area behind := by unfold bkN; omega
  have e2 : (behind / 64 * 64 + j) % 64 = j := by omega
  rw [e1, e2]
  simp only [List.getD] at h3 ⊢
  rw [List.getElem?_append_left (by rw [List.length_append, h3]; omega), List.getElem?_append_left (by rw [h3]; exact hj), List.getElem?_take_of_lt hj]
 ·unfold putL padL
  simp only [List.getD]
  have hr := recL_len s
  rw [List.getElem?_append_left (by rw [List.length_append]; simp only [List.getD] at h3; rw [h3, hr]; omega), List.getElem?_append_right (by simp only [List.getD] at h3; rw [h3]; omega)]
  simp only [List.getD] at h3
  rw [h3, Nat.add_sub_cancel_left]
theorem laid_bytes {d : DskV} (hok : DskOk d) {area behind : Nat} {s : List UInt8} (ha : area < 2) (hb : behind + 2 + s.length ≤ arN d.ws * 64) :
  bytesL (jlayL d.ws (bkN d.ws area behind) (chunkL (putL d.ws area behind s) ((behind % 64 + 2 + s.length + 63) / 64))) area (behind + (2 + s.length)) = bytesL d.ws area behind ++ recL s := by
 have hg := fun j => putL_get hok (s := s) ha (show behind < arN d.ws * 64 by omega) j
 apply List.ext_getElem
 ·rw [bytesL_len, List.length_append, bytesL_len, recL_len]
 intro k h1 h2
 have hk : k < behind + (2 + s.length) := by rw [bytesL_len] at h1; exact h1
 have hkA : k < arN d.ws * 64 := by omega
 have hbk := bkN_lt hok ha hkA
 have e0 : (bytesL (jlayL d.ws (bkN d.ws area behind) (chunkL (putL d.ws area behind s) ((behind % 64 + 2 + s.length + 63) / 64))) area (behind + (2 + s.length)))[k] = byteAt (jlayL d.ws (bkN d.ws area behind) (chunkL (putL d.ws area behind s) ((behind % 64 + 2 + s.length + 63) / 64))) area k := by simp [bytesL]
 rw [e0]
 have e1 : byteAt (jlayL d.ws (bkN d.ws area behind) (chunkL (putL d.ws area behind s) ((behind % 64 + 2 + s.length + 63) / 64))) area k = if behind / 64 ≤ k / 64 then (putL d.ws area behind s).getD (k - behind / 64 * 64) 0 else byteAt d.ws area k := by
  unfold byteAt
  rw [bkN_congr (jlayL_len _ _ _), layL_get _ _ _ _ hbk, chunkL_len]
  have e3 : bkN d.ws area behind ≤ bkN d.ws area k ↔ behind / 64 ≤ k / 64 := by unfold bkN; omega
  by_cases e : behind / 64 ≤ k / 64
  ·have e5 : bkN d.ws area k < bkN d.ws area behind + (behind % 64 + 2 + s.length + 63) / 64 := by unfold bkN; omega
   have e6 : bkN d.ws area k - bkN d.ws area behind = k / 64 - behind / 64 := by unfold bkN; omega
   rw [if_pos ⟨e3.2 e, e5⟩, if_pos e, e6, chunkL_get _ _ _ _ (by omega) (by omega)]
   congr 1
   omega
  ·rw [if_neg (fun h => e (e3.1 h.1)), if_neg e]
 rw [e1]
 by_cases hkb : k < behind
 ·rw [List.getElem_append_left (by rw [bytesL_len]; exact hkb)]
  have e2 : (bytesL d.ws area behind)[k]'(by rw [bytesL_len]; exact hkb) = byteAt d.ws area k := by simp [bytesL]
  rw [e2]
  by_cases e : behind / 64 ≤ k / 64
  ·rw [if_pos e, (hg _).1 (by omega)]
   congr 1
   omega
  ·rw [if_neg e]
 ·rw [List.getElem_append_right (by rw [bytesL_len]; omega), if_pos (by omega)]
  have e3 : k - behind / 64 * 64 = behind % 64 + (k - behind) := by omega
  rw [e3, (hg 0).2 _ (by omega)]
  simp only [bytesL_len]
  have hr := recL_len s
  simp [List.getD, show k - behind < (recL s).length by omega]
end Go.Proofs.YtlommddabccdeaaGreatDoor
