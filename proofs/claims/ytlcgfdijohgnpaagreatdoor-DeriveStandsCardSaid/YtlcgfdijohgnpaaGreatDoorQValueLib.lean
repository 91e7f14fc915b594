/-
  ValueRead, ValueLib.
-/
import Derived.Test.YtlcgfdijohgnpaaGreatDoorQValueMath
import Derived.Laws.RangeAny
import Derived.LoopTactic
import Derived.IntWalk
import Derived.Outline
import Derived.Test.YtlcgfdijohgnpaaGreatDoorShelf
import Derived.WalkSmall
import Derived.Sort.Grow
import Derived.Lib.LaidTab
namespace Go.Proofs.YtlcgfdijohgnpaaGreatDoor
open Go.ChangeShapes Go.WideShapes Go.ChangeAt Go.RowKit

theorem below_iter (w : World) (s : ByteArray) (pos : Nat) : Below w.heap.size w (w.iter s pos) := (Below.refl _ _).alloc (Nat.le_refl _) _
theorem allText_cons (c : UInt8) (r : List UInt8) : allText (c :: r) = (printB c.toNat && allText r) := by simp [allText]
theorem printB_high {b : Int} (h : 126 < b) : printB b = false := by simp [printB]; intros; omega

set_option maxHeartbeats 400000 in
theorem isText_any (s : ByteArray) (w : World) (hs : s.size ≤ maxLen) :
  Calls Tryz.prog 131 #[.string s] w fun e w' => e = .returned (.bool (allText s.data.toList)) ∧ Below w.heap.size w w' := by
 unfold maxLen at hs
 go_enter Tryz.func131, Tryz.ntmps131
 go_wp2
 go_loopw [4] (fun _ w' => ∃ pos : Nat, pos ≤ s.size ∧ w' = w.iter s pos ∧ Hid (allText s.data.toList = allText (s.data.toList.drop pos))) (fun _ w' => s.size - w'.iterPos w.heap.size)
 case atStart => exact ⟨0, by omega, rfl, Lib.hid rfl⟩
 case round =>
  obtain ⟨pos, hk, rfl, HR⟩ := hrel
  by_cases hp : pos < s.size
  ·have HD := Lib.hid (drop_byte s pos hp)
   by_cases ha : s[pos].toNat < 128
   ·have hnx : ∀ ty, (Instr.next (.pointer (some ⟨w.heap.size, 0, none⟩)) true ty).run Tryz.prog (w.iter s pos) = _ := fun ty => run_next_ascii w s pos ty hp ha
    by_cases h1 : 32 ≤ s[pos].toNat
    ·by_cases h2 : s[pos].toNat ≤ 126
     ·have hb : printB s[pos].toNat = true := by simp [printB]; omega
      have HB := Lib.hid hb
      have d1 : decide ((s[pos].toNat : Int) < 32) = false := decide_eq_false (by omega)
      have d2 : decide (126 < (s[pos].toNat : Int)) = false := decide_eq_false (by omega)
      clear hb
      go_wp2
      go_roundw
      case rel => exact ⟨pos + 1, by omega, rfl, Lib.hid (by rw [HR.out, HD.out, allText_cons, HB.out]; rfl)⟩
      case measure => simp; omega
     ·have hb : printB s[pos].toNat = false := printB_high (by omega)
      have HB := Lib.hid hb
      have d1 : decide ((s[pos].toNat : Int) < 32) = false := decide_eq_false (by omega)
      have d2 : decide (126 < (s[pos].toNat : Int)) = true := decide_eq_true (by omega)
      clear hb
      go_wp2
      go_ret
      exact ⟨ret_bool (by rw [HR.out, HD.out, allText_cons, HB.out]; rfl), below_iter _ _ _⟩
    ·have hb : printB s[pos].toNat = false := by simp [printB]; omega
     have HB := Lib.hid hb
     have d1 : decide ((s[pos].toNat : Int) < 32) = true := decide_eq_true (by omega)
     clear hb
     go_wp2
     go_ret
     exact ⟨ret_bool (by rw [HR.out, HD.out, allText_cons, HB.out]; rfl), below_iter _ _ _⟩
   ·have hnx : ∀ ty, (Instr.next (.pointer (some ⟨w.heap.size, 0, none⟩)) true ty).run Tryz.prog (w.iter s pos) = _ := fun ty => run_next_any w s pos ty hp
    have hh := decode_high s pos hp (by omega)
    have HB := Lib.hid (printB_high (b := s[pos].toNat) (by omega))
    obtain ⟨r, hr⟩ : ∃ r, Utf8.decode s pos = r := ⟨_, rfl⟩
    rw [hr] at hnx hh
    obtain ⟨r1, r2⟩ := r
    simp only at hnx hh
    obtain ⟨hh, _⟩ := hh
    have d1 : decide (r1 < 32) = false := decide_eq_false (by omega)
    have d2 : decide (126 < r1) = true := decide_eq_true (by omega)
    clear hr ha
    go_wp2
    go_ret
    exact ⟨ret_bool (by rw [HR.out, HD.out, allText_cons, HB.out]; rfl), below_iter _ _ _⟩
  ·have hnx : ∀ ty, (Instr.next (.pointer (some ⟨w.heap.size, 0, none⟩)) true ty).run Tryz.prog (w.iter s pos) = _ := fun ty => run_next_end w s pos ty hp
   go_wp2
   go_ret
   exact ⟨ret_bool (by rw [HR.out, List.drop_eq_nil_of_le (by simp; omega)]; rfl), below_iter _ _ _⟩

theorem cls_digit {b : Int} : cls b = 3 ↔ 48 ≤ b ∧ b ≤ 57 := by
 unfold cls; repeat' split
 all_goals omega
theorem takeWhile_cons_yes {c : UInt8} {r : List UInt8} (h : isD c = true) : (c :: r).takeWhile isD = c :: r.takeWhile isD := by simp [List.takeWhile, h]
theorem takeWhile_cons_no {c : UInt8} {r : List UInt8} (h : isD c = false) : (c :: r).takeWhile isD = [] := by simp [List.takeWhile, h]
def nDig (l : List UInt8) : Nat := (l.takeWhile isD).length
theorem nDig_yes {c : UInt8} {r : List UInt8} (h : isD c = true) : nDig (c :: r) = nDig r + 1 := by simp [nDig, takeWhile_cons_yes h]
theorem nDig_no {c : UInt8} {r : List UInt8} (h : isD c = false) : nDig (c :: r) = 0 := by simp [nDig, takeWhile_cons_no h]
theorem nDig_le (l : List UInt8) : nDig l ≤ l.length := (List.takeWhile_sublist _).length_le
theorem ret_int {k : IntKind} {a b : Int} (h : a = b) : Ending.returned (.int k a) = .returned (.int k b) := by rw [h]

set_option maxHeartbeats 400000 in
theorem digits_any (s : ByteArray) (w : World) (hT : Tab w) (hs : s.size ≤ maxLen) :
  Calls Tryz.prog 145 #[.string s] w fun e w' => e = .returned (.int .i64 (nDig s.data.toList)) ∧ Below w.heap.size w w' := by
 unfold maxLen at hs
 go_enter Tryz.func145, Tryz.ntmps145
 go_wp2
 go_loopw [3] (fun _ w' => ∃ pos : Nat, pos ≤ s.size ∧ w' = w.iter s pos ∧ Hid (nDig s.data.toList = pos + nDig (s.data.toList.drop pos))) (fun _ w' => s.size - w'.iterPos w.heap.size)
 case atStart => exact ⟨0, by omega, rfl, Lib.hid (by simp)⟩
 case round =>
  obtain ⟨pos, hk, rfl, HR⟩ := hrel
  by_cases hp : pos < s.size
  ·have HD := Lib.hid (drop_byte s pos hp)
   have hTi : ∀ p, Tab (w.iter s p) := fun p => hT.below (below_iter w s p)
   by_cases ha : s[pos].toNat < 128
   ·have hnx : ∀ ty, (Instr.next (.pointer (some ⟨w.heap.size, 0, none⟩)) true ty).run Tryz.prog (w.iter s pos) = _ := fun ty => run_next_ascii w s pos ty hp ha
    by_cases hb : isD s[pos] = true
    ·have HB := Lib.hid hb
     have d1 : (cls s[pos].toNat != 3) = false := ne_false (cls_digit.2 (by simp [isD] at hb; omega))
     clear hb
     go_wp2_with fail
     refine (class_any _ _ (hTi _)).mono ?_
     rintro e w' ⟨rfl, rfl⟩
     go_wp2
     go_roundw
     case rel => exact ⟨pos + 1, by omega, rfl, Lib.hid (by rw [HR.out, HD.out, nDig_yes HB.out]; omega)⟩
     case measure => simp; omega
    ·have hb' : isD s[pos] = false := by simpa using hb
     have HB := Lib.hid hb'
     have d1 : (cls s[pos].toNat != 3) = true := ne_true (fun h => by have := cls_digit.1 h; simp [isD] at hb; omega)
     clear hb hb'
     go_wp2_with fail
     refine (class_any _ _ (hTi _)).mono ?_
     rintro e w' ⟨rfl, rfl⟩
     go_wp2
     go_ret
     exact ⟨ret_int (by rw [HR.out, HD.out, nDig_no HB.out]; simp), below_iter _ _ _⟩
   ·have hnx : ∀ ty, (Instr.next (.pointer (some ⟨w.heap.size, 0, none⟩)) true ty).run Tryz.prog (w.iter s pos) = _ := fun ty => run_next_any w s pos ty hp
    have hh := decode_high s pos hp (by omega)
    have hle := decode_le s pos
    have HB : Hid (isD s[pos] = false) := Lib.hid (by simp [isD]; omega)
    obtain ⟨r, hr⟩ : ∃ r, Utf8.decode s pos = r := ⟨_, rfl⟩
    rw [hr] at hnx hh hle
    obtain ⟨r1, r2⟩ := r
    simp only at hnx hh hle
    obtain ⟨hh, _⟩ := hh
    have d1 : (cls r1 != 3) = true := ne_true (fun h => by have := cls_digit.1 h; omega)
    clear hr ha
    go_wp2_with fail
    refine (class_any _ _ (hTi _)).mono ?_
    rintro e w' ⟨rfl, rfl⟩
    go_wp2
    go_ret
    exact ⟨ret_int (by rw [HR.out, HD.out, nDig_no HB.out]; simp), below_iter _ _ _⟩
  ·have hnx : ∀ ty, (Instr.next (.pointer (some ⟨w.heap.size, 0, none⟩)) true ty).run Tryz.prog (w.iter s pos) = _ := fun ty => run_next_end w s pos ty hp
   have HB : Hid (nDig s.data.toList = s.size) := Lib.hid (by rw [HR.out, List.drop_eq_nil_of_le (by simp; omega)]; simp [nDig]; omega)
   go_wp2
   go_ret
   exact ⟨ret_int (by rw [HB.out]), below_iter _ _ _⟩


set_option maxHeartbeats 800000 in
set_option maxRecDepth 100000 in
theorem said_any (s : ByteArray) (w : World) (hD : s.data.toList.all isD = true) (hs : s.size ≤ maxLen) :
  Calls Tryz.prog 146 #[.string s] w fun e w' => e = .returned (.int .i64 (capN (dec s.data.toList))) ∧ Below w.heap.size w w' := by
 unfold maxLen at hs
 have HALL := Lib.hid hD
 clear hD
 go_enter Tryz.func146, Tryz.ntmps146
 go_wp2
 go_loopw [3, 5, 6] (fun n _ _ w' => ∃ pos : Nat, pos ≤ s.size ∧ w' = w.iter s pos ∧ ∃ m : Nat, n = .int .i64 m ∧ m ≤ 4611686018427387904 ∧ Hid (dec s.data.toList = decAcc m (s.data.toList.drop pos))) (fun _ _ _ w' => s.size - w'.iterPos w.heap.size)
 case atStart => exact ⟨0, by omega, rfl, 0, rfl, by omega, Lib.hid (by unfold dec; rw [List.drop_zero])⟩
 case round =>
  obtain ⟨pos, hk, rfl, m, rfl, hm, HR⟩ := hrel
  by_cases hp : pos < s.size
  ·have HD := Lib.hid (drop_byte s pos hp)
   have hdg : isD s[pos] = true := List.all_eq_true.1 HALL.out _ (by simp [ByteArray.getElem_eq_getElem_data])
   obtain ⟨hd1, hd2⟩ : 48 ≤ s[pos].toNat ∧ s[pos].toNat ≤ 57 := by simpa [isD] using hdg
   have hnx : ∀ ty, (Instr.next (.pointer (some ⟨w.heap.size, 0, none⟩)) true ty).run Tryz.prog (w.iter s pos) = _ := fun ty => run_next_ascii w s pos ty hp (by omega)
   clear hdg
   have HRS : Hid (dec s.data.toList = decAcc (m * 10 + (s[pos].toNat - 48)) (s.data.toList.drop (pos + 1))) := Lib.hid (by rw [HR.out, HD.out, decAcc_cons, decS_eq])
   obtain ⟨d, hde⟩ : ∃ d : Nat, s[pos].toNat = d + 48 := ⟨s[pos].toNat - 48, by omega⟩
   have hdle : d ≤ 9 := by omega
   rw [hde] at hnx HRS
   clear hd1 hd2 hde HD
   have e0 : IntKind.i32.wrap (((d + 48 : Nat) : Int) - 48) = (d : Int) := by rw [IntWalk.i32_in _ (by omega)]; omega
   have e1 : ((d + 48 : Nat) : Int) - 48 = (d : Int) := by omega
   by_cases hc : m * 10 + d ≤ 4611686018427387904
   ·have d1 : decide ((4611686018427387904 - (d : Int)).tdiv 10 < (m : Int)) = false := decide_eq_false (by rw [Int.tdiv_eq_ediv_of_nonneg (by omega)]; omega)
    have d2 : decide ((4611686018427387904 - (d : Int)) / 10 < (m : Int)) = false := decide_eq_false (by omega)
    go_wp2
    go_roundw
    case rel => exact ⟨pos + 1, by omega, rfl, m * 10 + d, by go_num, hc, Lib.hid (by rw [HRS.out]; simp)⟩
    case measure => simp; omega
   ·have d1 : decide ((4611686018427387904 - (d : Int)).tdiv 10 < (m : Int)) = true := decide_eq_true (by rw [Int.tdiv_eq_ediv_of_nonneg (by omega)]; omega)
    have d2 : decide ((4611686018427387904 - (d : Int)) / 10 < (m : Int)) = true := decide_eq_true (by omega)
    go_wp2
    go_ret
    exact ⟨ret_int (by rw [cap_big (by rw [HRS.out]; have := decAcc_ge (m * 10 + (d + 48 - 48)) (s.data.toList.drop (pos + 1)); omega)]; rfl), below_iter _ _ _⟩
  ·have hnx : ∀ ty, (Instr.next (.pointer (some ⟨w.heap.size, 0, none⟩)) true ty).run Tryz.prog (w.iter s pos) = _ := fun ty => run_next_end w s pos ty hp
   go_wp2
   go_ret
   exact ⟨ret_int (by rw [HR.out, List.drop_eq_nil_of_le (by simp; omega), decAcc_nil, cap_small hm]), below_iter _ _ _⟩


theorem nDig_take (l : List UInt8) : l.take (nDig l) = l.takeWhile isD := by
 unfold nDig
 induction l with
 | nil => rfl
 | cons c r ih =>
  by_cases h : isD c = true
  ·rw [takeWhile_cons_yes h]; simp [ih]
  ·rw [takeWhile_cons_no (by simpa using h)]; simp
theorem nDig_drop (l : List UInt8) : l.drop (nDig l) = l.dropWhile isD := by
 unfold nDig
 induction l with
 | nil => rfl
 | cons c r ih =>
  by_cases h : isD c = true
  ·rw [takeWhile_cons_yes h]; simp [ih, List.dropWhile, h]
  ·have h' : isD c = false := by simpa using h
   rw [takeWhile_cons_no h']; simp [List.dropWhile, h']
theorem takeWhile_all (l : List UInt8) : (l.takeWhile isD).all isD = true := by simp

def numOkS (l : List UInt8) : Bool := numOk (l.takeWhile isD)
theorem numOkS_zero {l : List UInt8} (h : nDig l = 0) : numOkS l = false := by
 have : l.takeWhile isD = [] := List.eq_nil_of_length_eq_zero h
 unfold numOkS; rw [this]; rfl
theorem first_of {s : ByteArray} (h : 0 < s.size) : s.data.toList = s[0] :: s.data.toList.drop 1 := by
 have := drop_byte s 0 h; simpa using this
theorem numOk_iff (c : UInt8) (r : List UInt8) : numOk (c :: r) = ((c :: r).all isD && (c != 48 || r.isEmpty)) := rfl
theorem numOkS_lead {s : ByteArray} (h0 : 0 < s.size) (h : 1 < nDig s.data.toList) (h48 : s[0].toNat = 48) : numOkS s.data.toList = false := by
 unfold numOkS
 have hs := first_of h0
 have hc : s[0] = 48 := UInt8.toNat_inj.1 h48
 have hd : isD s[0] = true := by simp [isD, hc]
 rw [hs, takeWhile_cons_yes hd, numOk_iff, hc]
 rw [hs, nDig_yes hd] at h
 have : ((s.data.toList.drop 1).takeWhile isD).isEmpty = false := by
  cases hh : (s.data.toList.drop 1).takeWhile isD with
  | nil => unfold nDig at h; rw [hh] at h; simp at h
  | cons a b => rfl
 rw [this]; simp
theorem numOkS_yes {s : ByteArray} (h0 : 0 < s.size) (h : 0 < nDig s.data.toList) (hq : s[0].toNat ≠ 48 ∨ nDig s.data.toList ≤ 1) : numOkS s.data.toList = true := by
 unfold numOkS
 have hs := first_of h0
 have hall := takeWhile_all s.data.toList
 by_cases hd : isD s[0] = true
 ·rw [hs, takeWhile_cons_yes hd] at hall ⊢
  rw [numOk_iff, hall]
  rcases hq with hq | hq
  ·have : (s[0] != 48) = true := by simpa using fun e => hq (by rw [e]; rfl)
   rw [this]; rfl
  ·rw [hs, nDig_yes hd] at hq
   have : (s.data.toList.drop 1).takeWhile isD = [] := List.eq_nil_of_length_eq_zero (by unfold nDig at hq; omega)
   rw [this]; simp
 ·rw [hs, nDig_no (by simpa using hd)] at h; omega

theorem str_extract (s : ByteArray) (a b : Nat) : (s.extract a b).data.toList = (s.data.toList.drop a).take (b - a) := by
 rw [Lib.extract_data]

set_option maxHeartbeats 800000 in
set_option maxRecDepth 100000 in
theorem number_no (s : ByteArray) (w : World) (hT : Tab w) (hs : s.size ≤ maxLen) (h : numOkS s.data.toList = false) :
  Calls Tryz.prog 128 #[.string s] w fun e w' => e = .returned (.tuple #[.int .i64 0, .string ⟨#[]⟩, .bool false]) ∧ Below w.heap.size w w' := by
 have hle := nDig_le s.data.toList
 have hsz : s.data.toList.length = s.size := by simp
 by_cases h0 : nDig s.data.toList = 0
 ·clear h
  obtain ⟨n, hn⟩ : ∃ n, nDig s.data.toList = n := ⟨_, rfl⟩
  have HN := Lib.hid hn
  rw [hn] at h0
  subst h0
  clear hn hle hsz
  go_enter Tryz.func128, Tryz.ntmps128
  go_wp2_with fail
  refine (digits_any _ _ hT hs).mono ?_
  rintro e w' ⟨rfl, hb⟩
  rw [HN.out]
  go_wp2
  exact bodyPost_ret (v := .tuple #[.int .i64 0, .string ⟨#[]⟩, .bool false]) (by simp [results, Tryz.results128, go_sem]) rfl ⟨rfl, hb⟩
 ·have hpos : 0 < s.size := by omega
  have h48 : s[0].toNat = 48 ∧ 1 < nDig s.data.toList := by
   refine Classical.byContradiction fun hc => ?_
   have := numOkS_yes hpos (by omega) (by by_cases q : s[0].toNat = 48 <;> omega)
   rw [h] at this; cases this
  obtain ⟨h48, h1⟩ := h48
  have d1 : ((s[0].toNat : Int) == 48) = true := beq_iff_eq.2 (by omega)
  obtain ⟨n, hn⟩ : ∃ n, nDig s.data.toList = n := ⟨_, rfl⟩
  rw [hn] at h1
  have HN := Lib.hid hn
  have d2 : ((n : Int) == 0) = false := beq_eq_false_iff_ne.2 (by omega)
  have d3 : decide (1 < (n : Int)) = true := decide_eq_true (by omega)
  clear hn h h0 hle hsz h48 h1
  go_enter Tryz.func128, Tryz.ntmps128
  go_wp2_with fail
  refine (digits_any _ _ hT hs).mono ?_
  rintro e w' ⟨rfl, hb⟩
  rw [HN.out]
  go_wp2
  exact bodyPost_ret (v := .tuple #[.int .i64 0, .string ⟨#[]⟩, .bool false]) (by simp [results, Tryz.results128, go_sem]) rfl ⟨rfl, hb⟩

end Go.Proofs.YtlcgfdijohgnpaaGreatDoor

namespace Go.Proofs.YtlcgfdijohgnpaaGreatDoor
open Go.ChangeShapes Go.WideShapes Go.ChangeAt Go.RowKit

def Txts (w : World) (x : Option Addr) (xs : List ByteArray) : Prop :=
 ∀ k (h : k < xs.length), ∃ b off, x = some ⟨b, off, none⟩ ∧ b < w.heap.size ∧ w.cell? ⟨b, off + k, none⟩ = some (.string xs[k])
theorem Txts.nil_ (w : World) (x : Option Addr) : Txts w x [] := fun k h => absurd h (by simp)
theorem Txts.below {w w' : World} {x : Option Addr} {xs : List ByteArray} (h : Txts w x xs) (hb : Below w.heap.size w w') : Txts w' x xs := fun k hk => by
 obtain ⟨b, off, e, hl, hc⟩ := h k hk
 exact ⟨b, off, e, Nat.lt_of_lt_of_le hl hb.size, by rw [hb.cell (p := ⟨b, off + k, none⟩) hl]; exact hc⟩
theorem Txts.one {w : World} {x : Option Addr} {xs : List ByteArray} (h : Txts w x xs) (hn : 0 < xs.length) :
  ∃ b off, x = some ⟨b, off, none⟩ ∧ b < w.heap.size ∧ ∀ k (hk : k < xs.length), w.cell? ⟨b, off + k, none⟩ = some (.string xs[k]) := by
 obtain ⟨b, off, e, hl, _⟩ := h 0 hn
 refine ⟨b, off, e, hl, fun k hk => ?_⟩
 obtain ⟨b', off', e', _, hc⟩ := h k hk
 rw [e] at e'
 obtain ⟨rfl, rfl⟩ : b = b' ∧ off = off' := by simpa using e'
 exact hc

theorem below_drewN (w : World) (n : Nat) : Below w.heap.size w (w.drewN n) := ⟨rfl, rfl, rfl, Nat.le_refl _, fun _ _ => rfl⟩
theorem cut_any (s : ByteArray) (w : World) :
  Calls Tryz.prog 127 #[.string s, .string ⟨#[45]⟩] w fun e w' => e = .returned (.tuple #[.string (mkB (unsg s.data.toList)), .bool (negOf s.data.toList)]) ∧ w = w' :=
 (Any.strings_CutPrefix Tryz.lays103 s ⟨#[45]⟩ w).mono fun e w' ⟨he, hw⟩ => by
  refine ⟨?_, hw.symm⟩
  rw [he]
  have h1 : Lib.hasPrefix s.data.toList [45] = negOf s.data.toList := by
   cases s.data.toList with
   | nil => rfl
   | cons c r => show ((45 : UInt8) == c && true) = (c == 45); rw [Bool.and_true, BEq.comm]
  have h2 : Lib.trimPrefix s.data.toList [45] = unsg s.data.toList := by
   unfold Lib.trimPrefix unsg
   rw [h1]; rfl
  show Ending.returned (.tuple #[.string ⟨(Lib.trimPrefix s.data.toList [45]).toArray⟩, .bool (Lib.hasPrefix s.data.toList [45])]) = _
  rw [h1, h2]; rfl

theorem clone_inner (s : ByteArray) (w : World) (h : s.size ≤ 281474976710656) :
  Calls Tryz.prog 45 #[.string s] w fun e w' => e = .returned (.string s) ∧ Below w.heap.size w w' :=
 Any.stringslite_Clone Tryz.laysM316 s w h
theorem clone_any (s : ByteArray) (w : World) (h : s.size ≤ 281474976710656) :
  Calls Tryz.prog 21 #[.string s] w fun e w' => e = .returned (.string s) ∧ Below w.heap.size w w' := by
 go_enter Tryz.func21, Tryz.ntmps21
 go_wp2_with fail
 refine (clone_inner _ _ h).mono ?_
 rintro e w' ⟨rfl, hb⟩
 go_wp2
 go_ret
 exact ⟨rfl, hb⟩

theorem join_any (w : World) (x : Option Addr) (cap : Nat) (xs : List ByteArray) (hx : Txts w x xs) (hc : xs.length ≤ cap) (hn : xs.length ≤ 16) (hl : (joinW xs).length ≤ 140737488355328) :
  Calls Tryz.prog 152 #[.slice x xs.length cap, .string ⟨#[44]⟩] w fun e w' => e = .returned (.string (mkB (joinW xs))) ∧ Below w.heap.size w w' := by
 rcases Nat.eq_zero_or_pos xs.length with h0 | h0
 ·obtain rfl := List.eq_nil_of_length_eq_zero h0
  exact (Any.strings_Join_none Tryz.lays156 Tryz.Builder_Extra_156 x cap ⟨#[44]⟩ w).mono fun _ _ ⟨he, hw⟩ => ⟨he, hw ▸ Below.refl _ _⟩
 ·obtain ⟨b, off, rfl, hb, hcell⟩ := hx.one h0
  refine Any.strings_Join Tryz.lays156 Tryz.Builder_Extra_156 b off cap xs ⟨#[44]⟩ w (fun j u hj => ?_) hb (by omega) hc hl
  obtain ⟨hj1, rfl⟩ := List.getElem?_eq_some_iff.1 hj
  exact hcell j hj1

theorem count_any (s : ByteArray) (w : World) :
  Calls Tryz.prog 133 #[.string s, .string ⟨#[44]⟩] w fun e w' => e = .returned (.int .i64 (s.data.toList.count 44)) ∧ w = w' :=
 (Any.strings_Count_one Tryz.lays138 s 44 w).mono fun _ _ ⟨he, hw⟩ => ⟨he, hw.symm⟩

def MaxI (w : World) : Prop := ∃ m : Int, w.cell? ⟨0, 0, none⟩ = some (.int .i64 m)
def sep44 : ByteArray := ⟨#[44]⟩

/-! What is cut at commas -/
theorem pieces_pos (l : List UInt8) : pieces l ≠ [] := by
 cases l with
 | nil => simp [pieces]
 | cons c r =>
  rw [pieces]; split
  ·simp
  ·split <;> simp
theorem pieces_comma (r : List UInt8) : pieces (44 :: r) = [] :: pieces r := by rw [pieces, if_pos rfl]
theorem pieces_cons {c : UInt8} {r : List UInt8} (h : c ≠ 44) : ∃ p ps, pieces r = p :: ps ∧ pieces (c :: r) = (c :: p) :: ps := by
 cases hp : pieces r with
 | nil => exact absurd hp (pieces_pos r)
 | cons p ps => exact ⟨p, ps, rfl, by rw [pieces, if_neg h, hp]⟩
theorem pieces_count (l : List UInt8) : (pieces l).length = l.count 44 + 1 := by
 induction l with
 | nil => rfl
 | cons c r ih =>
  by_cases h : c = 44
  ·subst h; rw [pieces_comma]; simp [ih]
  ·obtain ⟨p, ps, h1, h2⟩ := pieces_cons (r := r) h
   rw [h2, List.count_cons_of_ne (by simpa using h), ← ih, h1]; simp
theorem index_cons (c : UInt8) (l : List UInt8) : Lib.index (c :: l) [44] = if c = 44 then 0 else if Lib.index l [44] = -1 then -1 else Lib.index l [44] + 1 := by
 by_cases h : c = 44
 ·subst h; rw [Lib.index]; simp [List.isPrefixOf]
 ·have hp : ([44] : List UInt8).isPrefixOf (c :: l) = false := by simp [List.isPrefixOf, Ne.symm h]
  rw [Lib.index, hp, if_neg h]; simp
theorem splitK_comma (k : Nat) (r : List UInt8) : Lib.splitK [44] 0 (k + 1) (44 :: r) = [] :: Lib.splitK [44] 0 k r := by
 rw [Lib.splitK, index_cons, if_pos rfl]; simp
theorem splitK_cons {c : UInt8} (h : c ≠ 44) (k : Nat) (r : List UInt8) : ∃ p ps, Lib.splitK [44] 0 k r = p :: ps ∧ Lib.splitK [44] 0 k (c :: r) = (c :: p) :: ps := by
 cases k with
 | zero => exact ⟨r, [], rfl, rfl⟩
 | succ k =>
  have hi := index_cons c r
  rw [if_neg h] at hi
  by_cases hm : Lib.index r [44] = -1
  ·rw [if_pos hm] at hi
   exact ⟨r, [], by rw [Lib.splitK, hm]; rfl, by rw [Lib.splitK, hi]; rfl⟩
  ·rw [if_neg hm] at hi
   have hge := Lib.index_ge r [44]
   obtain ⟨j, hj⟩ : ∃ j : Nat, Lib.index r [44] = j := ⟨(Lib.index r [44]).toNat, by omega⟩
   rw [hj] at hi
   refine ⟨r.take j, Lib.splitK [44] 0 k (r.drop (j + 1)), ?_, ?_⟩
   ·rw [Lib.splitK, hj, if_neg (by simp)]
    have : ((j : Int)).toNat = j := by omega
    rw [this]; simp
   ·rw [Lib.splitK, hi, if_neg (by simp; omega)]
    have : ((j : Int) + 1).toNat = j + 1 := by omega
    rw [this]; simp
theorem split_pieces (l : List UInt8) : Lib.splitK [44] 0 (l.count 44) l = pieces l := by
 induction l with
 | nil => rfl
 | cons c r ih =>
  by_cases h : c = 44
  ·subst h; rw [List.count_cons_self, splitK_comma, ih, pieces_comma]
  ·rw [List.count_cons_of_ne (by simpa using h)]
   obtain ⟨p, ps, h1, h2⟩ := splitK_cons h (r.count 44) r
   obtain ⟨p', ps', h3, h4⟩ := pieces_cons (r := r) h
   rw [h2, h4]
   rw [ih, h3] at h1
   obtain ⟨rfl, rfl⟩ : p' = p ∧ ps' = ps := by simpa using h1
   rfl
theorem countB_44 (s : ByteArray) : Lib.countB s sep44 = s.data.toList.count 44 := by
 show Lib.count s.data.toList [44] = _
 exact Lib.count_one 44 _
theorem map_mkB (l : List ByteArray) : (l.map (·.data.toList)).map mkB = l := by
 rw [List.map_map]
 conv => rhs; rw [← List.map_id l]
 exact List.map_congr_left fun b _ => mkB_self b
theorem split_words (s : ByteArray) : Lib.splitB sep44 0 (Lib.countB s sep44) s = (pieces s.data.toList).map mkB := by
 rw [← split_pieces, ← countB_44, ← map_mkB (Lib.splitB sep44 0 (Lib.countB s sep44) s), Lib.splitB_data]
 rfl

theorem infoStr : (Tryz.prog.info? 9).map (fun i => (i.zero, i.size, i.bytes)) = some (some (.string ByteArray.empty), 1, 16) := by kernel_rfl
theorem split_any (s : ByteArray) (w : World) (hs : s.size ≤ 200) (hm : MaxI w) :
  Calls Tryz.prog 134 #[.string s, .string ⟨#[44]⟩] w fun e w' => e = .returned (.slice (some ⟨w.heap.size, 0, none⟩) (pieces s.data.toList).length (pieces s.data.toList).length) ∧ w' = w.alloc (.cells (((pieces s.data.toList).map mkB).map Value.string).toArray 9) := by
 obtain ⟨m, hm⟩ := hm
 refine (Any.strings_Split Tryz.lays146 infoStr s sep44 m w (by omega) hm (by decide)).mono fun e w' ⟨he, hw⟩ => ⟨?_, ?_⟩
 ·rw [he, countB_44, pieces_count]
 ·rw [hw, split_words]; rfl
end Go.Proofs.YtlcgfdijohgnpaaGreatDoor
