/-
  CodecTake.
-/
import Derived.Test.YtlommddabccdeaaGreatDoorQCodecObj
import Derived.Deep.QuietTactic
import Derived.BigQuiet
import Derived.Outline
import Derived.Laws.BitsLemmas
import Derived.Lib.EndianBits
namespace Go.Proofs.YtlommddabccdeaaGreatDoor
open Go.ChangeShapes Go.WideShapes Go.ChangeAt Go.RowKit

def Lies (w : World) (g : Nat) (v : Value) (l : List UInt8) : Prop :=
 ∃ off cap, v = .slice (some ⟨g, off, none⟩) l.length cap ∧ l.length ≤ cap ∧ ∀ j (hj : j < l.length), w.cell? ⟨g, off + j, none⟩ = some (.int .u8 (l[j].toNat : Int))
theorem Lies.kept {w w' : World} {g : Nat} {v : Value} {l : List UInt8} (h : Lies w g v l) (hk : w'.heap[g]? = w.heap[g]?) : Lies w' g v l := by
 obtain ⟨off, cap, h1, h2, h3⟩ := h
 exact ⟨off, cap, h1, h2, fun j hj => by rw [World.cell?_of_block (w := w) (a := ⟨g, off + j, none⟩) hk]; exact h3 j hj⟩
theorem add_at (g off j : Nat) : (⟨g, off, none⟩ : Addr).add j = ⟨g, off + j, none⟩ := by unfold Addr.add; split <;> simp_all
theorem Lies.string {w : World} {g : Nat} {v : Value} {l : List UInt8} (h : Lies w g v l) : (convert 63 9 v).run Tryz.prog w = .ok (str l) w := by
 obtain ⟨off, cap, rfl, h2, h3⟩ := h
 exact run_convert_bytes_back w 63 9 5 ⟨g, off, none⟩ cap l Tryz.underlying63 Tryz.underlying5 Tryz.underlying9 fun j hj => by rw [add_at]; exact h3 j hj

theorem ret_int {k : IntKind} {a b : Int} (h : a = b) : Ending.returned (.int k a) = .returned (.int k b) := by rw [h]
theorem rowLen_lt {l : List UInt8} {k : Nat} (h : k < l.length) : rowLen (l.drop k) k = if l[k].toNat < 128 then (k + 1, 0) else if k + 1 = 9 then (0, 30) else rowLen (l.drop (k + 1)) (k + 1) := by
 rw [List.drop_eq_getElem_cons h, rowLen]
theorem rowLen_ge {l : List UInt8} {k : Nat} (h : l.length ≤ k) : rowLen (l.drop k) k = (0, 32) := by
 rw [List.drop_eq_nil_of_le h]; rfl

set_option maxRecDepth 100000 in
set_option maxHeartbeats 800000 in
theorem rowLength_any (w : World) (g : Nat) (v : Value) (l : List UInt8) (h : Lies w g v l) (hl : l.length ≤ 70368744177664) :
  Calls Tryz.prog 134 #[v] w fun e w' => e = .returned (.tuple #[.int .i64 (rowLen l 0).1, errW (rowLen l 0).2]) ∧ w = w' := by
 obtain ⟨off, cap, rfl, h2, h3⟩ := h
 have H3 := Lib.hid h3
 clear h3
 go_enter Tryz.func134, Tryz.ntmps134
 go_wp2
 go_loop [8, 4, 5, 9, 10, 11, 12, 13, 14, 17, 18, 19, 22] (fun i _ _ _ _ _ _ _ _ _ _ _ _ => ∃ k : Nat, k ≤ l.length ∧ k ≤ 8 ∧ i = .int .i64 k ∧ Hid (rowLen l 0 = rowLen (l.drop k) k)) (fun i _ _ _ _ _ _ _ _ _ _ _ _ => l.length - (intOf i).toNat)
 case atStart => exact ⟨0, by omega, by omega, rfl, Lib.hid (by simp)⟩
 case round =>
  obtain ⟨k, hk, hk8, rfl, HR⟩ := hrel
  by_cases hlt : k < l.length
  ·have hcell := H3.out k hlt
   have hstep := rowLen_lt hlt
   generalize l[k] = c at hcell hstep
   have HS := Lib.hid hstep
   clear hstep
   by_cases hc : c.toNat < 128
   ·have HA : Hid (rowLen l 0 = (k + 1, 0)) := Lib.hid (by rw [HR.out, HS.out, if_pos hc])
    go_wp2
    go_ret2
    exact ⟨by rw [HA.out]; rfl, rfl⟩
   ·by_cases h9 : k + 1 = 9
    ·have HA : Hid (rowLen l 0 = (0, 30)) := Lib.hid (by rw [HR.out, HS.out, if_neg hc, if_pos h9])
     have hd : ((k : Int) + 1 == 9) = true := by simp; omega
     clear h9
     go_wp2
     go_ret2
     exact ⟨by rw [HA.out]; rfl, rfl⟩
    ·have HA : Hid (rowLen l 0 = rowLen (l.drop (k + 1)) (k + 1)) := Lib.hid (by rw [HR.out, HS.out, if_neg hc, if_neg h9])
     have hd : ((k : Int) + 1 == 9) = false := by simp; omega
     go_wp2
     go_round
     case rel => exact ⟨k + 1, by omega, by omega, by go_num, HA⟩
     case measure => simp [intOf]; omega
  ·have HA : Hid (rowLen l 0 = (0, 32)) := Lib.hid (by rw [HR.out, rowLen_ge (by omega)])
   go_wp2
   go_ret2
   exact ⟨by rw [HA.out]; rfl, rfl⟩

theorem andNot128 (c : UInt8) : bits .andNot .u8 (c.toNat : Int) 128 = ((c.toNat % 128 : Nat) : Int) := by
 have key : ∀ k : Fin 256, bits .andNot .u8 (k.val : Int) 128 = ((k.val % 128 : Nat) : Int) := by decide +kernel
 exact key ⟨c.toNat, c.toNat_lt⟩
theorem valL_take {l : List UInt8} {k : Nat} (h : k < l.length) : valL (l.take (k + 1)) = valL (l.take k) + l[k].toNat % 128 * 128 ^ k := by
 induction l generalizing k with
 | nil => simp at h
 | cons b r ih =>
  cases k with
  | zero => simp [valL]
  | succ k =>
   simp only [List.take_succ_cons, valL, List.getElem_cons_succ]
   rw [ih (by simpa using h), Nat.mul_add, Nat.pow_succ, ← Nat.add_assoc]
   congr 1
   rw [Nat.mul_comm 128, Nat.mul_assoc, Nat.mul_comm (128 ^ k) 128]
theorem valL_lt (l : List UInt8) : valL l < 128 ^ l.length := by
 induction l with
 | nil => simp [valL]
 | cons b r ih =>
  simp only [valL, List.length_cons, Nat.pow_succ]
  have : b.toNat % 128 < 128 := Nat.mod_lt _ (by decide)
  omega

theorem p128 (k : Nat) : (2 : Int) ^ (7 * k) = ((128 ^ k : Nat) : Int) := by
 rw [Int.pow_mul]; simp
theorem orShl (m k : Nat) (c : UInt8) (hk : k ≤ 8) (hm : m < 128 ^ k) : bits .or .u64 (m : Int) (IntKind.u64.wrap ((c.toNat : Int) % 128 * 2 ^ (7 * k))) = ((m + c.toNat % 128 * 128 ^ k : Nat) : Int) := by
 have h1 : c.toNat % 128 * 128 ^ k < 128 ^ 9 := by
  have h2 : c.toNat % 128 < 128 := Nat.mod_lt _ (by decide)
  have h3 : 128 ^ k ≤ 128 ^ 8 := Nat.pow_le_pow_right (by decide) hk
  have h4 : c.toNat % 128 * 128 ^ k ≤ 127 * 128 ^ 8 := Nat.mul_le_mul (by omega) h3
  omega
 have e1 : (c.toNat : Int) % 128 * 2 ^ (7 * k) = ((c.toNat % 128 * 128 ^ k : Nat) : Int) := by rw [p128]; push_cast; rfl
 have h9 : (128 : Nat) ^ 9 = 9223372036854775808 := by decide
 rw [h9] at h1
 have hm9 : m < 9223372036854775808 := by
  have h3 : 128 ^ k ≤ 128 ^ 9 := Nat.pow_le_pow_right (by decide) (by omega)
  rw [h9] at h3
  omega
 rw [e1, u64_wrap_id _ (by omega) (by omega)]
 rw [bits_join_low .u64 64 (by decide) wraps_u64 (7 * k) _ _ (by omega) (by rw [p128]; omega) (by omega) (by omega) (by rw [p128]; exact_mod_cast Nat.mul_mod_left _ _) (by omega)]
 push_cast; rfl

set_option maxRecDepth 100000 in
set_option maxHeartbeats 800000 in
theorem said_any (w : World) (g : Nat) (v : Value) (l : List UInt8) (h : Lies w g v l) (hl : l.length ≤ 9) :
  Calls Tryz.prog 135 #[v] w fun e w' => e = .returned (.int .u64 (valL l)) ∧ w = w' := by
 obtain ⟨off, cap, rfl, h2, h3⟩ := h
 have H3 := Lib.hid h3
 clear h3
 go_enter Tryz.func135, Tryz.ntmps135
 go_wp2
 go_loop [8, 3, 4, 5, 9, 10, 11, 12, 13, 14, 15, 16, 17, 18, 19, 20, 21] (fun i n _ _ _ _ _ _ _ _ _ _ _ _ _ _ _ => ∃ k : Nat, k ≤ l.length ∧ i = .int .i64 k ∧ ∃ m : Nat, n = .int .u64 m ∧ Hid (valL (l.take k) = m)) (fun i _ _ _ _ _ _ _ _ _ _ _ _ _ _ _ _ => l.length - (intOf i).toNat)
 case atStart => exact ⟨0, by omega, rfl, 0, rfl, Lib.hid (by simp [valL])⟩
 case round =>
  obtain ⟨k, hk, rfl, m, rfl, HR⟩ := hrel
  by_cases hlt : k < l.length
  ·have hcell := H3.out k hlt
   have hstep := valL_take hlt
   generalize l[k] = c at hcell hstep
   have HS := Lib.hid hstep
   have ha := andNot128 c
   clear hstep
   have hmk : m < 128 ^ k := by
    rw [← HR.out]
    have h1 := valL_lt (l.take k)
    rw [List.length_take] at h1
    have : min k l.length = k := by omega
    rw [this] at h1; exact h1
   have HO := Lib.hid (orShl m k c (by omega) hmk)
   clear hmk
   go_wp2
   go_round
   case rel => exact ⟨k + 1, by omega, by go_num, m + c.toNat % 128 * 128 ^ k, by rw [HO.out], Lib.hid (by rw [HS.out, HR.out])⟩
   case measure => simp [intOf]; omega
  ·have HA : Hid (m = valL l) := Lib.hid (by rw [← HR.out, List.take_of_length_le (by omega)])
   go_wp2
   go_ret
   exact ⟨ret_int (by rw [HA.out]), rfl⟩

theorem rowLen_bd {l : List UInt8} {k : Nat} (h : (rowLen l k).2 = 0) (hk : k ≤ 8) : k < (rowLen l k).1 ∧ (rowLen l k).1 ≤ k + l.length ∧ (rowLen l k).1 ≤ 9 := by
 induction l generalizing k with
 | nil => simp [rowLen] at h
 | cons b r ih =>
  rw [rowLen] at h ⊢
  split
  ·simp only [List.length_cons]; omega
  ·rename_i hb
   rw [if_neg hb] at h
   split
   ·rename_i h9
    rw [if_pos h9] at h
    simp at h
   ·rename_i h9
    rw [if_neg h9] at h
    have := ih h (by omega)
    simp only [List.length_cons]; omega

theorem elem8 : Tryz.prog.underlying 63 = some (.slice (Tryz.prog.elem 63)) := by kernel_rfl
theorem size8 (w : World) : (sizeOf (Tryz.prog.elem 63)).run Tryz.prog w = .ok 1 w := by kernel_rfl
theorem Lies.take {w : World} {g : Nat} {v : Value} {l : List UInt8} (h : Lies w g v l) {k : Nat} (hk : k ≤ l.length) :
  ∃ v', (∀ W, (Instr.slice 63 v none (some (.int .i64 k)) none).run Tryz.prog W = .ok v' W) ∧ Lies w g v' (l.take k) := by
 obtain ⟨off, cap, rfl, h2, h3⟩ := h
 refine ⟨_, fun W => by rw [run_slice_h W _ _ _ _ elem8 .i64 k (by omega) (by omega), size8]; rfl, off, cap, ?_, ?_, ?_⟩
 ·have : (l.take k).length = k := by rw [List.length_take]; omega
  rw [this]
  simp only [sliced]
  split <;> simp [Addr.add]
 ·rw [List.length_take]; omega
 ·intro j hj
  rw [List.length_take] at hj
  rw [h3 j (by omega)]; simp
theorem Lies.drop {w : World} {g : Nat} {v : Value} {l : List UInt8} (h : Lies w g v l) {k : Nat} (hk : k ≤ l.length) :
  ∃ v', (∀ W, (Instr.slice 63 v (some (.int .i64 k)) none none).run Tryz.prog W = .ok v' W) ∧ Lies w g v' (l.drop k) := by
 obtain ⟨off, cap, rfl, h2, h3⟩ := h
 by_cases hc : cap = k
 ·refine ⟨_, fun W => by rw [run_slice_l W _ _ _ _ elem8 .i64 k (by omega) (by omega), size8]; rfl, off, cap - k, ?_, ?_, ?_⟩
  ·rw [List.length_drop]
   simp only [sliced]
   rw [if_pos (by omega)]; simp
  ·rw [List.length_drop]; omega
  ·intro j hj
   rw [List.length_drop] at hj
   omega
 ·refine ⟨_, fun W => by rw [run_slice_l W _ _ _ _ elem8 .i64 k (by omega) (by omega), size8]; rfl, off + k, cap - k, ?_, ?_, ?_⟩
  ·rw [List.length_drop]
   simp only [sliced]
   rw [if_neg (by omega)]; simp [add_at]
  ·rw [List.length_drop]; omega
  ·intro j hj
   rw [List.length_drop] at hj
   rw [Nat.add_assoc, h3 (k + j) (by omega)]; simp

theorem equal_any (w : World) (a b : Value) (x y : List UInt8) (ha : (convert 63 9 a).run Tryz.prog w = .ok (str x) w) (hb : (convert 63 9 b).run Tryz.prog w = .ok (str y) w) (q : Bool) (hq : decide (x = y) = q) :
  Calls Tryz.prog 137 #[a, b] w fun e w' => e = .returned (.bool q) ∧ w = w' := by
 have hs : (x == y) = q := by rw [← hq, Bool.eq_iff_iff]; simp
 unfold str at ha hb
 clear hq
 go_enter Tryz.func137, Tryz.ntmps137
 go_wp2
 go_ret
 exact ⟨rfl, rfl⟩

theorem below_drawN {B : Nat} {a w : World} (h : Below B a w) (n : Nat) : Below B a (w.drewN n) := ⟨h.os, h.tape, h.output, h.size, h.block⟩

def TakeN (w : World) (g : Nat) (l : List UInt8) (e : Ending) (w' : World) : Prop :=
 ∃ v', e = .returned (.tuple #[.int .i64 (takeN l).1, v', errW (takeN l).2.2]) ∧ Below w.heap.size w w' ∧ ((takeN l).2.2 = 0 → Lies w g v' (takeN l).2.1) ∧ ((takeN l).2.2 ≠ 0 → v' = .slice none 0 0)
theorem TakeN.err {w w' : World} {g : Nat} {l : List UInt8} {er : Int} (h : takeN l = (0, [], er)) (he : er ≠ 0) (hb : Below w.heap.size w w') : TakeN w g l (.returned (.tuple #[.int .i64 0, .slice none 0 0, errV er])) w' := by
 refine ⟨.slice none 0 0, by rw [h, ← errW_some he]; rfl, hb, ?_, fun _ => rfl⟩
 rw [h]; intro h0; exact absurd h0 he

set_option maxRecDepth 100000 in
set_option maxHeartbeats 1600000 in
theorem takeNumber_any (w : World) (g : Nat) (v : Value) (l : List UInt8) (h : Lies w g v l) (hl : l.length ≤ 70368744177664) (hg : g < w.heap.size) :
  Calls Tryz.prog 115 #[v] w (TakeN w g l) := by
 have HR := Lib.hid (rowLength_any w g v l h hl)
 by_cases h0 : (rowLen l 0).2 = 0
 ·obtain ⟨hk1, hk2, hk3⟩ := rowLen_bd h0 (by omega)
  have hT : takeN l = if 4611686018427387904 < valL (l.take (rowLen l 0).1) then (0, [], 30) else if rowL (valL (l.take (rowLen l 0).1)) ≠ l.take (rowLen l 0).1 then (0, [], 30) else (valL (l.take (rowLen l 0).1), l.drop (rowLen l 0).1, 0) := by
   rw [takeN, if_neg (by simp [h0])]
  rw [h0, errW_nil] at HR
  generalize (rowLen l 0).1 = k at HR hk1 hk2 hk3 hT
  have hkl : k ≤ l.length := by omega
  obtain ⟨v1, s1, L1⟩ := h.take hkl
  obtain ⟨v2, s2, L2⟩ := h.drop hkl
  have hlen : (l.take k).length ≤ 9 := by rw [List.length_take]; omega
  have HS := Lib.hid (said_any w g v1 _ L1 hlen)
  have hn63 : valL (l.take k) < 9223372036854775808 := by
   have h1 := valL_lt (l.take k)
   have h2 : 128 ^ (l.take k).length ≤ 128 ^ 9 := Nat.pow_le_pow_right (by decide) hlen
   have h9 : (128 : Nat) ^ 9 = 9223372036854775808 := by decide
   omega
  generalize valL (l.take k) = n at HS hT hn63
  have HT := Lib.hid hT
  have HL1 := Lib.hid L1
  have HL2 := Lib.hid L2
  clear hT L1 L2 h h0
  by_cases hbig : 4611686018427387904 < n
  ·have HE : Hid (takeN l = (0, [], 30)) := Lib.hid (by rw [HT.out, if_pos hbig])
   have HB := Lib.hid hbig
   clear hbig hn63
   go_enter Tryz.func115, Tryz.ntmps115
   go_wp2_with (first
    | (go_at_call 134; refine HR.out.mono ?_; rintro e w' ⟨rfl, rfl⟩)
    | (go_at_call 135; refine HS.out.mono ?_; rintro e w' ⟨rfl, rfl⟩)
    | (go_at_call 136; refine (rowOf_u64_no n _ HB.out).mono ?_; rintro e w' ⟨rfl, rfl⟩; unfold errV))
   go_ret3
   exact TakeN.err HE.out (by decide) (Below.refl _ _)
  ·have HM : Hid (n ≤ 4611686018427387904) := Lib.hid (by omega)
   have hwi : IntKind.i64.wrap (n : Int) = n := IntWalk.i64_in _ (by omega)
   by_cases heq : rowL n = l.take k
   ·have HE : Hid (takeN l = (n, l.drop k, 0)) := Lib.hid (by rw [HT.out, if_neg hbig, if_neg (by simpa using heq)])
    have HQ : Hid (decide (rowL n = l.take k) = true) := Lib.hid (by simpa using heq)
    clear hbig hn63 heq HT
    go_enter Tryz.func115, Tryz.ntmps115
    go_wp2_with (first
     | (go_at_call 134; refine HR.out.mono ?_; rintro e w' ⟨rfl, rfl⟩)
     | (go_at_call 135; refine HS.out.mono ?_; rintro e w' ⟨rfl, rfl⟩)
     | (go_at_call 136; refine (rowOf_u64 n _ HM.out).mono ?_; rintro e w1 ⟨v3, rfl, ho⟩)
     | (go_at_call 137; refine (equal_any w1 v3 v1 _ _ ho.held.string (HL1.out.kept (ho.below.block g hg)).string true HQ.out).mono ?_; rintro e w' ⟨rfl, rfl⟩))
    go_quiet (fail)
    go_wp2
    go_ret3
    refine ⟨v2, by rw [HE.out]; rfl, below_drawN ho.below _, fun _ => by rw [HE.out]; exact HL2.out, fun h => absurd (by rw [HE.out]) h⟩
   ·have HE : Hid (takeN l = (0, [], 30)) := Lib.hid (by rw [HT.out, if_neg hbig, if_pos heq])
    have HQ : Hid (decide (rowL n = l.take k) = false) := Lib.hid (by simpa using heq)
    clear hbig hn63 heq HT
    go_enter Tryz.func115, Tryz.ntmps115
    go_wp2_with (first
     | (go_at_call 134; refine HR.out.mono ?_; rintro e w' ⟨rfl, rfl⟩)
     | (go_at_call 135; refine HS.out.mono ?_; rintro e w' ⟨rfl, rfl⟩)
     | (go_at_call 136; refine (rowOf_u64 n _ HM.out).mono ?_; rintro e w1 ⟨v3, rfl, ho⟩)
     | (go_at_call 137; refine (equal_any w1 v3 v1 _ _ ho.held.string (HL1.out.kept (ho.below.block g hg)).string false HQ.out).mono ?_; rintro e w' ⟨rfl, rfl⟩))
    go_ret3
    exact TakeN.err HE.out (by decide) ho.below
 ·have HE : Hid (takeN l = (0, [], (rowLen l 0).2)) := Lib.hid (by rw [takeN, if_pos h0])
  rw [errW_some h0] at HR
  unfold errV at HR
  have H0 := Lib.hid h0
  clear h0 h
  generalize (rowLen l 0).2 = er at HR HE H0
  generalize (rowLen l 0).1 = k at HR
  go_enter Tryz.func115, Tryz.ntmps115
  go_wp2_with (go_at_call 134; refine HR.out.mono ?_; rintro e w' ⟨rfl, rfl⟩)
  go_ret3
  exact TakeN.err HE.out H0.out (Below.refl _ _)

def TakeT (w : World) (g : Nat) (l : List UInt8) (most : Int) (e : Ending) (w' : World) : Prop :=
 ∃ v', e = .returned (.tuple #[str (takeT l most).1, v', errW (takeT l most).2.2]) ∧ Below w.heap.size w w' ∧ ((takeT l most).2.2 = 0 → Lies w g v' (takeT l most).2.1) ∧ ((takeT l most).2.2 ≠ 0 → v' = .slice none 0 0)
theorem TakeT.err {w w' : World} {g : Nat} {l : List UInt8} {most er : Int} (h : takeT l most = ([], [], er)) (he : er ≠ 0) (hb : Below w.heap.size w w') : TakeT w g l most (.returned (.tuple #[.string ⟨#[]⟩, .slice none 0 0, errV er])) w' := by
 refine ⟨.slice none 0 0, by rw [h, ← errW_some he]; rfl, hb, ?_, fun _ => rfl⟩
 rw [h]; intro h0; exact absurd h0 he

set_option maxRecDepth 100000 in
set_option maxHeartbeats 1600000 in
theorem takeText_any (w : World) (g : Nat) (v : Value) (l : List UInt8) (most : Int) (h : Lies w g v l) (hl : l.length ≤ 70368744177664) (hg : g < w.heap.size) :
  Calls Tryz.prog 116 #[v, .int .i64 most] w (TakeT w g l most) := by
 have HN := Lib.hid (takeNumber_any w g v l h hl hg)
 have hT : takeT l most = if (takeN l).2.2 ≠ 0 then ([], [], (takeN l).2.2) else if min most 65535 < ((takeN l).1 : Int) then ([], [], 31) else if (takeN l).2.1.length < (takeN l).1 then ([], [], 32) else ((takeN l).2.1.take (takeN l).1, (takeN l).2.1.drop (takeN l).1, 0) := rfl
 have hlen : (takeN l).2.2 = 0 → (takeN l).2.1.length ≤ 70368744177664 := fun h0 => by
  have := (takeN_ok (l := l) (n := (takeN l).1) (r := (takeN l).2.1) (by rw [← h0])).1
  have h2 := congrArg List.length this
  rw [List.length_append] at h2; omega
 unfold TakeN at HN
 generalize takeN l = p at HN hT hlen
 obtain ⟨n, r, er⟩ := p
 simp only at HN hT hlen
 clear h
 by_cases h0 : er = 0
 ·subst h0
  have hr := hlen rfl
  rw [if_neg (by simp)] at hT
  have HT := Lib.hid hT
  simp only [errW_nil, true_implies] at HN
  clear hT hlen
  by_cases hlong : min most 65535 < (n : Int)
  ·have HE : Hid (takeT l most = ([], [], 31)) := Lib.hid (by rw [HT.out, if_pos hlong])
   clear HT
   by_cases hm : 65535 < most
   ·have hd : decide ((65535 : Int) < (n : Int)) = true := decide_eq_true (by omega)
    clear hlong
    go_enter Tryz.func116, Tryz.ntmps116
    go_wp2_with (go_at_call 115; refine HN.out.mono ?_; rintro e w1 ⟨v1, rfl, hb, hL, _⟩)
    go_ret3
    exact TakeT.err HE.out (by decide) hb
   ·have hd : decide (most < (n : Int)) = true := decide_eq_true (by omega)
    clear hlong
    go_enter Tryz.func116, Tryz.ntmps116
    go_wp2_with (go_at_call 115; refine HN.out.mono ?_; rintro e w1 ⟨v1, rfl, hb, hL, _⟩)
    go_ret3
    exact TakeT.err HE.out (by decide) hb
  ·by_cases hshort : r.length < n
   ·have HE : Hid (takeT l most = ([], [], 32)) := Lib.hid (by rw [HT.out, if_neg hlong, if_pos hshort])
    clear HT
    by_cases hm : 65535 < most
    ·have hd : decide ((65535 : Int) < (n : Int)) = false := decide_eq_false (by omega)
     clear hlong
     go_enter Tryz.func116, Tryz.ntmps116
     go_wp2_with (go_at_call 115; refine HN.out.mono ?_; rintro e w1 ⟨v1, rfl, hb, hL, _⟩; obtain ⟨off, cap, rfl, _⟩ := hL)
     go_ret3
     exact TakeT.err HE.out (by decide) hb
    ·have hd : decide (most < (n : Int)) = false := decide_eq_false (by omega)
     clear hlong
     go_enter Tryz.func116, Tryz.ntmps116
     go_wp2_with (go_at_call 115; refine HN.out.mono ?_; rintro e w1 ⟨v1, rfl, hb, hL, _⟩; obtain ⟨off, cap, rfl, _⟩ := hL)
     go_ret3
     exact TakeT.err HE.out (by decide) hb
   ·have HE : Hid (takeT l most = (r.take n, r.drop n, 0)) := Lib.hid (by rw [HT.out, if_neg hlong, if_neg hshort])
    have hn : n ≤ r.length := by omega
    clear HT
    by_cases hm : 65535 < most
    ·have hd : decide ((65535 : Int) < (n : Int)) = false := decide_eq_false (by omega)
     clear hlong
     go_enter Tryz.func116, Tryz.ntmps116
     go_wp2_with (go_at_call 115; refine HN.out.mono ?_; rintro e w1 ⟨v1, rfl, hb, hL, _⟩; obtain ⟨v2, s2, L2⟩ := hL.take hn; obtain ⟨v3, s3, L3⟩ := hL.drop hn; have HL2 := Lib.hid L2; have HL3 := Lib.hid L3; obtain ⟨off, cap, rfl, hcap, _⟩ := hL; clear L2 L3)
     have hst : ∀ m, (convert 63 9 v2).run Tryz.prog (w1.drewN m) = .ok (str (r.take n)) (w1.drewN m) := fun m => (HL2.out.kept (w' := w1.drewN m) (hb.block g hg)).string
     go_quiet (fail)
     clear hst
     go_wp2
     go_ret3
     exact ⟨v3, by rw [HE.out]; rfl, below_drawN hb _, fun _ => by rw [HE.out]; exact HL3.out, fun h => absurd (by rw [HE.out]) h⟩
    ·have hd : decide (most < (n : Int)) = false := decide_eq_false (by omega)
     clear hlong
     go_enter Tryz.func116, Tryz.ntmps116
     go_wp2_with (go_at_call 115; refine HN.out.mono ?_; rintro e w1 ⟨v1, rfl, hb, hL, _⟩; obtain ⟨v2, s2, L2⟩ := hL.take hn; obtain ⟨v3, s3, L3⟩ := hL.drop hn; have HL2 := Lib.hid L2; have HL3 := Lib.hid L3; obtain ⟨off, cap, rfl, hcap, _⟩ := hL; clear L2 L3)
     have hst : ∀ m, (convert 63 9 v2).run Tryz.prog (w1.drewN m) = .ok (str (r.take n)) (w1.drewN m) := fun m => (HL2.out.kept (w' := w1.drewN m) (hb.block g hg)).string
     go_quiet (fail)
     clear hst
     go_wp2
     go_ret3
     exact ⟨v3, by rw [HE.out]; rfl, below_drawN hb _, fun _ => by rw [HE.out]; exact HL3.out, fun h => absurd (by rw [HE.out]) h⟩
 ·rw [if_pos h0] at hT
  have HT := Lib.hid hT
  have H0 := Lib.hid h0
  rw [errW_some h0] at HN
  unfold errV at HN
  clear hT hlen h0
  go_enter Tryz.func116, Tryz.ntmps116
  go_wp2_with (go_at_call 115; refine HN.out.mono ?_; rintro e w1 ⟨v1, rfl, hb, _, _⟩)
  go_ret3
  exact TakeT.err HT.out H0.out hb
end Go.Proofs.YtlommddabccdeaaGreatDoor
