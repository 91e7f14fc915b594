/-
  ValueRight.
-/
import Derived.Test.YtlcgfdijohgnpaaGreatDoorQValueParse
namespace Go.Proofs.YtlcgfdijohgnpaaGreatDoor
open Go.ChangeShapes Go.WideShapes Go.ChangeAt Go.RowKit

theorem joinTail_len (r : List (List UInt8)) (h : allWords r = true) : (Lib.joinTail [44] r).length ≤ 33 * r.length := by
 induction r with
 | nil => simp [Lib.joinTail]
 | cons y r ih =>
  unfold allWords at h ih
  simp only [List.all_cons, Bool.and_eq_true] at h
  have h1 : y.length ≤ 32 := by have := h.1; unfold wordB at this; simp at this; exact this.1.2
  have h2 := ih h.2
  simp only [Lib.joinTail, List.map_cons, List.flatten_cons, List.length_append, List.length_cons] at h2 ⊢
  simp only [List.length_nil]
  omega
theorem join_len (xs : List ByteArray) (h : allWords (wl xs) = true) : (joinW xs).length ≤ 33 * xs.length := by
 unfold joinW
 cases xs with
 | nil => simp [wl, Lib.join_nil]
 | cons y r =>
  have hw : wl (y :: r) = y.data.toList :: wl r := rfl
  rw [hw] at h ⊢
  rw [Lib.join_cons, List.length_append]
  unfold allWords at h
  simp only [List.all_cons, Bool.and_eq_true] at h
  have h1 : y.data.toList.length ≤ 32 := by have := h.1; unfold wordB at this; simp only [Bool.and_eq_true, decide_eq_true_eq] at this; exact this.1.2
  have h2 := joinTail_len (wl r) h.2
  have h3 : (wl r).length = r.length := by simp [wl]
  simp only [List.length_cons]
  omega
theorem wl_take {xs : List ByteArray} {k : Nat} (h : k < xs.length) (hp : allWords (wl (xs.take k)) = true) : (wordB xs[k].data.toList = false → allWords (wl xs) = false) ∧ (wordB xs[k].data.toList = true → allWords (wl (xs.take (k + 1))) = true) := by
 constructor
 ·intro hc
  cases hq : allWords (wl xs) with
  | false => rfl
  | true =>
   have hm : xs[k].data.toList ∈ wl xs := List.mem_map.2 ⟨xs[k], List.getElem_mem h, rfl⟩
   have := List.all_eq_true.1 hq _ hm
   rw [hc] at this; cases this
 ·intro hc
  rw [List.take_succ_eq_append_getElem h]
  unfold allWords wl at hp ⊢
  rw [List.map_append, List.all_append, hp]; simp [hc]

theorem emp_false' {s : ByteArray} (h : ¬ s.data.toList = []) : s.toList.isEmpty = false := by
 cases hq : s.toList with
 | nil => exact absurd (by rw [← toList_eq, hq]) h
 | cons a b => rfl

set_option maxHeartbeats 1600000 in
set_option maxRecDepth 100000 in
theorem areRight_any (w : World) (x : Option Addr) (cap : Nat) (xs : List ByteArray) (hx : Txts w x xs) (hcap : xs.length ≤ cap) (hT : Tab w) (hL : xs.length ≤ 4611686018427387904) (hS : ∀ k (h : k < xs.length), xs[k].size ≤ maxLen) :
  Calls Tryz.prog 136 #[.slice x xs.length cap] w fun e w' => e = .returned (.bool (wordsRight xs)) ∧ Below w.heap.size w w' := by
 have HX := Lib.hid hx
 have HT := Lib.hid hT
 have HS := Lib.hid hS
 clear hx hT hS
 by_cases h16 : 16 < xs.length
 ·have HV : Hid (wordsRight xs = false) := Lib.hid (by unfold wordsRight; rw [decide_eq_false (by omega)]; rfl)
  have d1 : decide (16 < (xs.length : Int)) = true := decide_eq_true (by omega)
  go_enter Tryz.func136, Tryz.ntmps136
  go_wp2
  go_ret
  exact ⟨ret_bool HV.out, Below.refl _ _⟩
 have d1 : decide (16 < (xs.length : Int)) = false := decide_eq_false (by omega)
 have h16' : xs.length ≤ 16 := by omega
 clear h16
 go_enter Tryz.func136, Tryz.ntmps136
 go_wp2
 go_loop [4, 10] (fun _ i => ∃ k : Nat, i = .int .i64 k ∧ k ≤ xs.length ∧ Hid (allWords (wl (xs.take k)) = true)) (fun _ i => xs.length - (intOf i).toNat)
 case atStart => exact ⟨0, rfl, by omega, Lib.hid rfl⟩
 case round =>
  obtain ⟨k, rfl, hk, HK⟩ := hrel
  by_cases hlt : k < xs.length
  ·obtain ⟨b, off, hxe, hbl, hc⟩ := HX.out k hlt
   obtain ⟨n1, n2⟩ := wl_take hlt HK.out
   have hsz := HS.out k hlt
   generalize xs[k] = y at hc n1 n2 hsz
   subst hxe
   have q1 : (0 : Int) ≤ k := by omega
   have q2 : (k : Int) < xs.length := by omega
   have HSZ := Lib.hid hsz
   cases hwb : wordB y.data.toList with
   | true =>
    have HN := Lib.hid (n2 hwb)
    have HWB := Lib.hid hwb
    clear n1 n2 hwb hsz
    go_wp2_with fail
    refine (isWord_any _ _ HT.out HSZ.out).mono ?_
    rintro e w' ⟨rfl, rfl⟩
    rw [HWB.out]
    go_wp2
    go_round
    case rel => exact ⟨k + 1, by go_num, by omega, HN⟩
    case measure => simp [intOf]; omega
   | false =>
    have HV : Hid (wordsRight xs = false) := Lib.hid (by unfold wordsRight; rw [n1 hwb]; simp)
    have HWB := Lib.hid hwb
    clear n1 n2 hwb hsz
    go_wp2_with fail
    refine (isWord_any _ _ HT.out HSZ.out).mono ?_
    rintro e w' ⟨rfl, rfl⟩
    rw [HWB.out]
    go_wp2
    go_ret
    exact ⟨ret_bool HV.out, Below.refl _ _⟩
  ·have ha : allWords (wl xs) = true := by have := HK.out; rwa [List.take_of_length_le (by omega)] at this
   have hj := join_len xs ha
   have q2 : decide ((k : Int) < xs.length) = false := decide_eq_false (by omega)
   have HV : Hid (wordsRight xs = decide ((joinW xs).length ≤ 200)) := Lib.hid (by unfold wordsRight; rw [decide_eq_true h16', ha]; rfl)
   have hjs : Hid ((joinW xs).length ≤ 140737488355328) := Lib.hid (by omega)
   obtain ⟨J, hJ⟩ : ∃ J, mkB (joinW xs) = J := ⟨_, rfl⟩
   have HJ := Lib.hid hJ
   have hJs : J.size = (joinW xs).length := by rw [← hJ, mkB_size]
   have HJS := Lib.hid hJs
   clear ha hj hJ hJs
   go_wp2_with fail
   refine (join_any _ _ _ _ HX.out hcap h16' hjs.out).mono ?_
   rintro e w' ⟨rfl, hb⟩
   rw [HJ.out]
   by_cases h200 : J.size ≤ 200
   ·have d2 : decide ((J.size : Int) ≤ 200) = true := decide_eq_true (by omega)
    have HW : Hid (wordsRight xs = true) := Lib.hid (by rw [HV.out, ← HJS.out]; exact decide_eq_true h200)
    clear h200
    go_wp2
    go_ret
    exact ⟨ret_bool HW.out, hb⟩
   ·have d2 : decide ((J.size : Int) ≤ 200) = false := decide_eq_false (by omega)
    have HW : Hid (wordsRight xs = false) := Lib.hid (by rw [HV.out, ← HJS.out]; exact decide_eq_false h200)
    clear h200
    go_wp2
    go_ret
    exact ⟨ret_bool HW.out, hb⟩

theorem bnd1 (w : World) : Calls Tryz.prog 130 #[.int .i64 1] w fun e w' => e = .returned (.tuple #[.int .i64 0, .int .i64 1]) ∧ w = w' := (bounds_any 1 w).mono fun _ _ ⟨h, hw⟩ => ⟨h, hw⟩
theorem bnd2 (w : World) : Calls Tryz.prog 130 #[.int .i64 2] w fun e w' => e = .returned (.tuple #[.int .i64 (-4611686018427387904), .int .i64 4611686018427387904]) ∧ w = w' := (bounds_any 2 w).mono fun _ _ ⟨h, hw⟩ => ⟨h, hw⟩
theorem bnd3 (w : World) : Calls Tryz.prog 130 #[.int .i64 3] w fun e w' => e = .returned (.tuple #[.int .i64 0, .int .i64 1125899906842624]) ∧ w = w' := (bounds_any 3 w).mono fun _ _ ⟨h, hw⟩ => ⟨h, hw⟩
theorem bnd4 (w : World) : Calls Tryz.prog 130 #[.int .i64 4] w fun e w' => e = .returned (.tuple #[.int .i64 0, .int .i64 1099511627776]) ∧ w = w' := (bounds_any 4 w).mono fun _ _ ⟨h, hw⟩ => ⟨h, hw⟩
theorem bnd5 (w : World) : Calls Tryz.prog 130 #[.int .i64 5] w fun e w' => e = .returned (.tuple #[.int .i64 0, .int .i64 0]) ∧ w = w' := (bounds_any 5 w).mono fun _ _ ⟨h, hw⟩ => ⟨h, hw⟩
theorem bnd6 (w : World) : Calls Tryz.prog 130 #[.int .i64 6] w fun e w' => e = .returned (.tuple #[.int .i64 0, .int .i64 0]) ∧ w = w' := (bounds_any 6 w).mono fun _ _ ⟨h, hw⟩ => ⟨h, hw⟩
theorem bnd0 {k : Int} (h1 : ¬ k = 1) (h2 : ¬ k = 2) (h3 : ¬ k = 3) (h4 : ¬ k = 4) (w : World) : Calls Tryz.prog 130 #[.int .i64 k] w fun e w' => e = .returned (.tuple #[.int .i64 0, .int .i64 0]) ∧ w = w' :=
 (bounds_any k w).mono fun _ _ ⟨h, hw⟩ => ⟨by rw [h, if_neg h2, if_neg h1, if_neg (by omega)], hw⟩
structure ArgOk (w : World) (v : Val) (x : Option Addr) (cap : Nat) : Prop where
 list : Txts w x v.words
 room : v.words.length ≤ cap
 len : v.words.length ≤ 4611686018427387904
 sizes : ∀ k (h : k < v.words.length), v.words[k].size ≤ maxLen
 text : v.text.size ≤ maxLen
def argV (v : Val) (x : Option Addr) (cap : Nat) : Value := .agg #[.int .i64 v.kind, .int .i64 v.int, .string v.text, .slice x v.words.length cap]
theorem ArgOk.below {w w' : World} {v : Val} {x : Option Addr} {cap : Nat} (h : ArgOk w v x cap) (hb : Below w.heap.size w w') : ArgOk w' v x cap := ⟨h.list.below hb, h.room, h.len, h.sizes, h.text⟩

set_option maxHeartbeats 3200000 in
set_option maxRecDepth 100000 in
theorem right_any (w : World) (v : Val) (x : Option Addr) (cap : Nat) (h : ArgOk w v x cap) (hT : Tab w) :
  Calls Tryz.prog 108 #[argV v x cap] w fun e w' => e = .returned (.bool (rightV v)) ∧ Below w.heap.size w w' := by
 obtain ⟨k, n, t, xs⟩ := v
 have hb0 : Hid (∀ o, Below w.heap.size w (w.alloc o)) := Lib.hid fun o => (Below.refl _ _).alloc (Nat.le_refl _) o
 have HT := Lib.hid hT
 have hlen : xs.length ≤ 4611686018427387904 := h.len
 have HA := Lib.hid h
 clear h hT
 obtain ⟨L, hLe⟩ : ∃ L, xs.length = L := ⟨_, rfl⟩
 have HL := Lib.hid hLe
 unfold argV
 simp only
 rw [hLe]
 rw [hLe] at hlen
 clear hLe
 by_cases h1 : k = 1
 ·subst h1
  have HR : Hid (rightV ⟨1, n, t, xs⟩ = (decide (0 ≤ n ∧ n ≤ 1) && decide (t.data.toList = []) && decide (L = 0))) := Lib.hid (by rw [← HL.out]; rfl)
  by_cases r1 : n < 0
  ·have HV : Hid (rightV ⟨1, n, t, xs⟩ = false) := Lib.hid (by rw [HR.out, decide_eq_false (by omega)]; rfl)
   have d1 : decide (n < 0) = true := decide_eq_true r1
   clear r1
   go_enter Tryz.func108, Tryz.ntmps108
   go_wp2_with fail
   refine (bnd1 _).mono ?_
   rintro e w' ⟨rfl, rfl⟩
   go_wp2
   go_ret
   exact ⟨ret_bool HV.out, hb0.out _⟩
  have d1 : decide (n < 0) = false := decide_eq_false r1
  by_cases r2 : 1 < n
  ·have HV : Hid (rightV ⟨1, n, t, xs⟩ = false) := Lib.hid (by rw [HR.out, decide_eq_false (by omega)]; rfl)
   have d2 : decide (1 < n) = true := decide_eq_true r2
   clear r1 r2
   go_enter Tryz.func108, Tryz.ntmps108
   go_wp2_with fail
   refine (bnd1 _).mono ?_
   rintro e w' ⟨rfl, rfl⟩
   go_wp2
   go_ret
   exact ⟨ret_bool HV.out, hb0.out _⟩
  have d2 : decide (1 < n) = false := decide_eq_false r2
  have HR2 : Hid (rightV ⟨1, n, t, xs⟩ = (decide (t.data.toList = []) && decide (L = 0))) := Lib.hid (by rw [HR.out, decide_eq_true (by omega)]; rfl)
  clear r1 r2
  by_cases ht : t.data.toList = []
  ·have e0 : (t.toList == []) = true := by rw [toList_eq, ht]; rfl
   have e1 : t.toList.isEmpty = true := by rw [toList_eq, ht]; rfl
   by_cases hz : L = 0
   ·have HV : Hid (rightV ⟨1, n, t, xs⟩ = true) := Lib.hid (by rw [HR2.out, decide_eq_true ht, decide_eq_true hz]; rfl)
    have d3 : ((L : Int) == 0) = true := beq_iff_eq.2 (by omega)
    clear ht hz
    go_enter Tryz.func108, Tryz.ntmps108
    go_wp2_with fail
    refine (bnd1 _).mono ?_
    rintro e w' ⟨rfl, rfl⟩
    go_wp2
    go_ret
    exact ⟨ret_bool HV.out, hb0.out _⟩
   ·have HV : Hid (rightV ⟨1, n, t, xs⟩ = false) := Lib.hid (by rw [HR2.out, decide_eq_false hz]; simp)
    have d3 : ((L : Int) == 0) = false := beq_eq_false_iff_ne.2 (by omega)
    clear ht hz
    go_enter Tryz.func108, Tryz.ntmps108
    go_wp2_with fail
    refine (bnd1 _).mono ?_
    rintro e w' ⟨rfl, rfl⟩
    go_wp2
    go_ret
    exact ⟨ret_bool HV.out, hb0.out _⟩
  ·have e0 := ne_text ht
   have e1 := emp_false' ht
   have HV : Hid (rightV ⟨1, n, t, xs⟩ = false) := Lib.hid (by rw [HR2.out, decide_eq_false ht]; rfl)
   clear ht
   go_enter Tryz.func108, Tryz.ntmps108
   go_wp2_with fail
   refine (bnd1 _).mono ?_
   rintro e w' ⟨rfl, rfl⟩
   go_wp2
   go_ret
   exact ⟨ret_bool HV.out, hb0.out _⟩
 by_cases h2 : k = 2
 ·subst h2
  have HR : Hid (rightV ⟨2, n, t, xs⟩ = (decide (-4611686018427387904 ≤ n ∧ n ≤ 4611686018427387904) && decide (t.data.toList = []) && decide (L = 0))) := Lib.hid (by rw [← HL.out]; rfl)
  by_cases r1 : n < -4611686018427387904
  ·have HV : Hid (rightV ⟨2, n, t, xs⟩ = false) := Lib.hid (by rw [HR.out, decide_eq_false (by omega)]; rfl)
   have d1 : decide (n < -4611686018427387904) = true := decide_eq_true r1
   clear r1
   go_enter Tryz.func108, Tryz.ntmps108
   go_wp2_with fail
   refine (bnd2 _).mono ?_
   rintro e w' ⟨rfl, rfl⟩
   go_wp2
   go_ret
   exact ⟨ret_bool HV.out, hb0.out _⟩
  have d1 : decide (n < -4611686018427387904) = false := decide_eq_false r1
  by_cases r2 : 4611686018427387904 < n
  ·have HV : Hid (rightV ⟨2, n, t, xs⟩ = false) := Lib.hid (by rw [HR.out, decide_eq_false (by omega)]; rfl)
   have d2 : decide (4611686018427387904 < n) = true := decide_eq_true r2
   clear r1 r2
   go_enter Tryz.func108, Tryz.ntmps108
   go_wp2_with fail
   refine (bnd2 _).mono ?_
   rintro e w' ⟨rfl, rfl⟩
   go_wp2
   go_ret
   exact ⟨ret_bool HV.out, hb0.out _⟩
  have d2 : decide (4611686018427387904 < n) = false := decide_eq_false r2
  have HR2 : Hid (rightV ⟨2, n, t, xs⟩ = (decide (t.data.toList = []) && decide (L = 0))) := Lib.hid (by rw [HR.out, decide_eq_true (by omega)]; rfl)
  clear r1 r2
  by_cases ht : t.data.toList = []
  ·have e0 : (t.toList == []) = true := by rw [toList_eq, ht]; rfl
   have e1 : t.toList.isEmpty = true := by rw [toList_eq, ht]; rfl
   by_cases hz : L = 0
   ·have HV : Hid (rightV ⟨2, n, t, xs⟩ = true) := Lib.hid (by rw [HR2.out, decide_eq_true ht, decide_eq_true hz]; rfl)
    have d3 : ((L : Int) == 0) = true := beq_iff_eq.2 (by omega)
    clear ht hz
    go_enter Tryz.func108, Tryz.ntmps108
    go_wp2_with fail
    refine (bnd2 _).mono ?_
    rintro e w' ⟨rfl, rfl⟩
    go_wp2
    go_ret
    exact ⟨ret_bool HV.out, hb0.out _⟩
   ·have HV : Hid (rightV ⟨2, n, t, xs⟩ = false) := Lib.hid (by rw [HR2.out, decide_eq_false hz]; simp)
    have d3 : ((L : Int) == 0) = false := beq_eq_false_iff_ne.2 (by omega)
    clear ht hz
    go_enter Tryz.func108, Tryz.ntmps108
    go_wp2_with fail
    refine (bnd2 _).mono ?_
    rintro e w' ⟨rfl, rfl⟩
    go_wp2
    go_ret
    exact ⟨ret_bool HV.out, hb0.out _⟩
  ·have e0 := ne_text ht
   have e1 := emp_false' ht
   have HV : Hid (rightV ⟨2, n, t, xs⟩ = false) := Lib.hid (by rw [HR2.out, decide_eq_false ht]; rfl)
   clear ht
   go_enter Tryz.func108, Tryz.ntmps108
   go_wp2_with fail
   refine (bnd2 _).mono ?_
   rintro e w' ⟨rfl, rfl⟩
   go_wp2
   go_ret
   exact ⟨ret_bool HV.out, hb0.out _⟩
 by_cases h3 : k = 3
 ·subst h3
  have HR : Hid (rightV ⟨3, n, t, xs⟩ = (decide (0 ≤ n ∧ n ≤ 1125899906842624) && decide (t.data.toList = []) && decide (L = 0))) := Lib.hid (by rw [← HL.out]; unfold rightV; rw [if_neg (by simp), if_neg (by simp), if_pos (by simp)]; rfl)
  by_cases r1 : n < 0
  ·have HV : Hid (rightV ⟨3, n, t, xs⟩ = false) := Lib.hid (by rw [HR.out, decide_eq_false (by omega)]; rfl)
   have d1 : decide (n < 0) = true := decide_eq_true r1
   clear r1
   go_enter Tryz.func108, Tryz.ntmps108
   go_wp2_with fail
   refine (bnd3 _).mono ?_
   rintro e w' ⟨rfl, rfl⟩
   go_wp2
   go_ret
   exact ⟨ret_bool HV.out, hb0.out _⟩
  have d1 : decide (n < 0) = false := decide_eq_false r1
  by_cases r2 : 1125899906842624 < n
  ·have HV : Hid (rightV ⟨3, n, t, xs⟩ = false) := Lib.hid (by rw [HR.out, decide_eq_false (by omega)]; rfl)
   have d2 : decide (1125899906842624 < n) = true := decide_eq_true r2
   clear r1 r2
   go_enter Tryz.func108, Tryz.ntmps108
   go_wp2_with fail
   refine (bnd3 _).mono ?_
   rintro e w' ⟨rfl, rfl⟩
   go_wp2
   go_ret
   exact ⟨ret_bool HV.out, hb0.out _⟩
  have d2 : decide (1125899906842624 < n) = false := decide_eq_false r2
  have HR2 : Hid (rightV ⟨3, n, t, xs⟩ = (decide (t.data.toList = []) && decide (L = 0))) := Lib.hid (by rw [HR.out, decide_eq_true (by omega)]; rfl)
  clear r1 r2
  by_cases ht : t.data.toList = []
  ·have e0 : (t.toList == []) = true := by rw [toList_eq, ht]; rfl
   have e1 : t.toList.isEmpty = true := by rw [toList_eq, ht]; rfl
   by_cases hz : L = 0
   ·have HV : Hid (rightV ⟨3, n, t, xs⟩ = true) := Lib.hid (by rw [HR2.out, decide_eq_true ht, decide_eq_true hz]; rfl)
    have d3 : ((L : Int) == 0) = true := beq_iff_eq.2 (by omega)
    clear ht hz
    go_enter Tryz.func108, Tryz.ntmps108
    go_wp2_with fail
    refine (bnd3 _).mono ?_
    rintro e w' ⟨rfl, rfl⟩
    go_wp2
    go_ret
    exact ⟨ret_bool HV.out, hb0.out _⟩
   ·have HV : Hid (rightV ⟨3, n, t, xs⟩ = false) := Lib.hid (by rw [HR2.out, decide_eq_false hz]; simp)
    have d3 : ((L : Int) == 0) = false := beq_eq_false_iff_ne.2 (by omega)
    clear ht hz
    go_enter Tryz.func108, Tryz.ntmps108
    go_wp2_with fail
    refine (bnd3 _).mono ?_
    rintro e w' ⟨rfl, rfl⟩
    go_wp2
    go_ret
    exact ⟨ret_bool HV.out, hb0.out _⟩
  ·have e0 := ne_text ht
   have e1 := emp_false' ht
   have HV : Hid (rightV ⟨3, n, t, xs⟩ = false) := Lib.hid (by rw [HR2.out, decide_eq_false ht]; rfl)
   clear ht
   go_enter Tryz.func108, Tryz.ntmps108
   go_wp2_with fail
   refine (bnd3 _).mono ?_
   rintro e w' ⟨rfl, rfl⟩
   go_wp2
   go_ret
   exact ⟨ret_bool HV.out, hb0.out _⟩
 by_cases h4 : k = 4
 ·subst h4
  have HR : Hid (rightV ⟨4, n, t, xs⟩ = (decide (0 ≤ n ∧ n ≤ 1099511627776) && decide (t.data.toList = []) && decide (L = 0))) := Lib.hid (by rw [← HL.out]; unfold rightV; rw [if_neg (by simp), if_neg (by simp), if_pos (by simp)]; rfl)
  by_cases r1 : n < 0
  ·have HV : Hid (rightV ⟨4, n, t, xs⟩ = false) := Lib.hid (by rw [HR.out, decide_eq_false (by omega)]; rfl)
   have d1 : decide (n < 0) = true := decide_eq_true r1
   clear r1
   go_enter Tryz.func108, Tryz.ntmps108
   go_wp2_with fail
   refine (bnd4 _).mono ?_
   rintro e w' ⟨rfl, rfl⟩
   go_wp2
   go_ret
   exact ⟨ret_bool HV.out, hb0.out _⟩
  have d1 : decide (n < 0) = false := decide_eq_false r1
  by_cases r2 : 1099511627776 < n
  ·have HV : Hid (rightV ⟨4, n, t, xs⟩ = false) := Lib.hid (by rw [HR.out, decide_eq_false (by omega)]; rfl)
   have d2 : decide (1099511627776 < n) = true := decide_eq_true r2
   clear r1 r2
   go_enter Tryz.func108, Tryz.ntmps108
   go_wp2_with fail
   refine (bnd4 _).mono ?_
   rintro e w' ⟨rfl, rfl⟩
   go_wp2
   go_ret
   exact ⟨ret_bool HV.out, hb0.out _⟩
  have d2 : decide (1099511627776 < n) = false := decide_eq_false r2
  have HR2 : Hid (rightV ⟨4, n, t, xs⟩ = (decide (t.data.toList = []) && decide (L = 0))) := Lib.hid (by rw [HR.out, decide_eq_true (by omega)]; rfl)
  clear r1 r2
  by_cases ht : t.data.toList = []
  ·have e0 : (t.toList == []) = true := by rw [toList_eq, ht]; rfl
   have e1 : t.toList.isEmpty = true := by rw [toList_eq, ht]; rfl
   by_cases hz : L = 0
   ·have HV : Hid (rightV ⟨4, n, t, xs⟩ = true) := Lib.hid (by rw [HR2.out, decide_eq_true ht, decide_eq_true hz]; rfl)
    have d3 : ((L : Int) == 0) = true := beq_iff_eq.2 (by omega)
    clear ht hz
    go_enter Tryz.func108, Tryz.ntmps108
    go_wp2_with fail
    refine (bnd4 _).mono ?_
    rintro e w' ⟨rfl, rfl⟩
    go_wp2
    go_ret
    exact ⟨ret_bool HV.out, hb0.out _⟩
   ·have HV : Hid (rightV ⟨4, n, t, xs⟩ = false) := Lib.hid (by rw [HR2.out, decide_eq_false hz]; simp)
    have d3 : ((L : Int) == 0) = false := beq_eq_false_iff_ne.2 (by omega)
    clear ht hz
    go_enter Tryz.func108, Tryz.ntmps108
    go_wp2_with fail
    refine (bnd4 _).mono ?_
    rintro e w' ⟨rfl, rfl⟩
    go_wp2
    go_ret
    exact ⟨ret_bool HV.out, hb0.out _⟩
  ·have e0 := ne_text ht
   have e1 := emp_false' ht
   have HV : Hid (rightV ⟨4, n, t, xs⟩ = false) := Lib.hid (by rw [HR2.out, decide_eq_false ht]; rfl)
   clear ht
   go_enter Tryz.func108, Tryz.ntmps108
   go_wp2_with fail
   refine (bnd4 _).mono ?_
   rintro e w' ⟨rfl, rfl⟩
   go_wp2
   go_ret
   exact ⟨ret_bool HV.out, hb0.out _⟩
 by_cases h5 : k = 5
 ·subst h5
  by_cases r1 : n < 0
  ·have HV : Hid (rightV ⟨5, n, t, xs⟩ = false) := Lib.hid (by unfold rightV; rw [if_neg (by simp), if_neg (by simp), if_neg (by simp), if_pos rfl]; simp only; rw [decide_eq_false (by omega)]; rfl)
   have d1 : decide (n < 0) = true := decide_eq_true r1
   clear r1
   go_enter Tryz.func108, Tryz.ntmps108
   go_wp2_with fail
   refine (bnd5 _).mono ?_
   rintro e w' ⟨rfl, rfl⟩
   go_wp2
   go_ret
   exact ⟨ret_bool HV.out, hb0.out _⟩
  have d1 : decide (n < 0) = false := decide_eq_false r1
  by_cases r2 : 0 < n
  ·have HV : Hid (rightV ⟨5, n, t, xs⟩ = false) := Lib.hid (by unfold rightV; rw [if_neg (by simp), if_neg (by simp), if_neg (by simp), if_pos rfl]; simp only; rw [decide_eq_false (by omega)]; rfl)
   have d2 : decide (0 < n) = true := decide_eq_true r2
   clear r1 r2
   go_enter Tryz.func108, Tryz.ntmps108
   go_wp2_with fail
   refine (bnd5 _).mono ?_
   rintro e w' ⟨rfl, rfl⟩
   go_wp2
   go_ret
   exact ⟨ret_bool HV.out, hb0.out _⟩
  obtain rfl : n = 0 := by omega
  clear d1 r1 r2
  have HR : Hid (rightV ⟨5, 0, t, xs⟩ = (decide (textV t.data.toList = 0) && decide (L = 0))) := Lib.hid (by rw [← HL.out]; unfold rightV; rw [if_neg (by simp), if_neg (by simp), if_neg (by simp), if_pos rfl]; simp)
  have hts : t.size ≤ maxLen := HA.out.text
  have HTS := Lib.hid hts
  rcases textV_cases t with ⟨ha, hv⟩ | ⟨ha, hl, hv⟩ | ⟨ha, hl, hv⟩
  ·have HV : Hid (rightV ⟨5, 0, t, xs⟩ = false) := Lib.hid (by rw [HR.out, hv]; rfl)
   have HAT := Lib.hid ha
   clear ha hv
   go_enter Tryz.func108, Tryz.ntmps108
   go_wp2_with fail
   refine (bnd5 _).mono ?_
   rintro e w' ⟨rfl, rfl⟩
   go_wp2_with fail
   refine (isText_any _ _ HTS.out).mono ?_
   rintro e w1 ⟨rfl, hb⟩
   rw [HAT.out]
   have HB := Lib.hid ((hb0.out _).trans (hb.mono (hb0.out (.cells #[.int .i64 5, .int .i64 0, .string t, .slice x L cap] 37)).size))
   have HBX : Hid (Box4 w1 w.heap.size (.int .i64 5) (.int .i64 0) (.string t) (.slice x L cap)) := Lib.hid ((box4_new w _ _ _ _ _).below hb)
   obtain ⟨c0, c1, c2, c3, _, _, _, _⟩ := HBX.out
   clear hb
   go_wp2
   go_ret
   exact ⟨ret_bool HV.out, HB.out⟩
  ·have HV : Hid (rightV ⟨5, 0, t, xs⟩ = false) := Lib.hid (by rw [HR.out, hv]; rfl)
   have HAT := Lib.hid ha
   have d3 : decide ((t.size : Int) ≤ 200) = false := decide_eq_false (by omega)
   clear ha hv
   go_enter Tryz.func108, Tryz.ntmps108
   go_wp2_with fail
   refine (bnd5 _).mono ?_
   rintro e w' ⟨rfl, rfl⟩
   go_wp2_with fail
   refine (isText_any _ _ HTS.out).mono ?_
   rintro e w1 ⟨rfl, hb⟩
   rw [HAT.out]
   have HB := Lib.hid ((hb0.out _).trans (hb.mono (hb0.out (.cells #[.int .i64 5, .int .i64 0, .string t, .slice x L cap] 37)).size))
   have HBX : Hid (Box4 w1 w.heap.size (.int .i64 5) (.int .i64 0) (.string t) (.slice x L cap)) := Lib.hid ((box4_new w _ _ _ _ _).below hb)
   obtain ⟨c0, c1, c2, c3, _, _, _, _⟩ := HBX.out
   clear hb
   go_wp2
   go_ret
   exact ⟨ret_bool HV.out, HB.out⟩
  ·have HAT := Lib.hid ha
   have d3 : decide ((t.size : Int) ≤ 200) = true := decide_eq_true (by omega)
   by_cases hz : L = 0
   ·have HV : Hid (rightV ⟨5, 0, t, xs⟩ = true) := Lib.hid (by rw [HR.out, hv, decide_eq_true hz]; rfl)
    have d4 : ((L : Int) == 0) = true := beq_iff_eq.2 (by omega)
    clear ha hv hz
    go_enter Tryz.func108, Tryz.ntmps108
    go_wp2_with fail
    refine (bnd5 _).mono ?_
    rintro e w' ⟨rfl, rfl⟩
    go_wp2_with fail
    refine (isText_any _ _ HTS.out).mono ?_
    rintro e w1 ⟨rfl, hb⟩
    rw [HAT.out]
    have HB := Lib.hid ((hb0.out _).trans (hb.mono (hb0.out (.cells #[.int .i64 5, .int .i64 0, .string t, .slice x L cap] 37)).size))
    have HBX : Hid (Box4 w1 w.heap.size (.int .i64 5) (.int .i64 0) (.string t) (.slice x L cap)) := Lib.hid ((box4_new w _ _ _ _ _).below hb)
    obtain ⟨c0, c1, c2, c3, _, _, _, _⟩ := HBX.out
    clear hb
    go_wp2
    go_ret
    exact ⟨ret_bool HV.out, HB.out⟩
   ·have HV : Hid (rightV ⟨5, 0, t, xs⟩ = false) := Lib.hid (by rw [HR.out, decide_eq_false hz]; simp)
    have d4 : ((L : Int) == 0) = false := beq_eq_false_iff_ne.2 (by omega)
    clear ha hv hz
    go_enter Tryz.func108, Tryz.ntmps108
    go_wp2_with fail
    refine (bnd5 _).mono ?_
    rintro e w' ⟨rfl, rfl⟩
    go_wp2_with fail
    refine (isText_any _ _ HTS.out).mono ?_
    rintro e w1 ⟨rfl, hb⟩
    rw [HAT.out]
    have HB := Lib.hid ((hb0.out _).trans (hb.mono (hb0.out (.cells #[.int .i64 5, .int .i64 0, .string t, .slice x L cap] 37)).size))
    have HBX : Hid (Box4 w1 w.heap.size (.int .i64 5) (.int .i64 0) (.string t) (.slice x L cap)) := Lib.hid ((box4_new w _ _ _ _ _).below hb)
    obtain ⟨c0, c1, c2, c3, _, _, _, _⟩ := HBX.out
    clear hb
    go_wp2
    go_ret
    exact ⟨ret_bool HV.out, HB.out⟩
 by_cases h6 : k = 6
 ·subst h6
  by_cases r1 : n < 0
  ·have HV : Hid (rightV ⟨6, n, t, xs⟩ = false) := Lib.hid (by unfold rightV; rw [if_neg (by simp), if_neg (by simp), if_neg (by simp), if_neg (by simp), if_pos rfl]; simp only; rw [decide_eq_false (by omega)]; rfl)
   have d1 : decide (n < 0) = true := decide_eq_true r1
   clear r1
   go_enter Tryz.func108, Tryz.ntmps108
   go_wp2_with fail
   refine (bnd6 _).mono ?_
   rintro e w' ⟨rfl, rfl⟩
   go_wp2
   go_ret
   exact ⟨ret_bool HV.out, hb0.out _⟩
  have d1 : decide (n < 0) = false := decide_eq_false r1
  by_cases r2 : 0 < n
  ·have HV : Hid (rightV ⟨6, n, t, xs⟩ = false) := Lib.hid (by unfold rightV; rw [if_neg (by simp), if_neg (by simp), if_neg (by simp), if_neg (by simp), if_pos rfl]; simp only; rw [decide_eq_false (by omega)]; rfl)
   have d2 : decide (0 < n) = true := decide_eq_true r2
   clear r1 r2
   go_enter Tryz.func108, Tryz.ntmps108
   go_wp2_with fail
   refine (bnd6 _).mono ?_
   rintro e w' ⟨rfl, rfl⟩
   go_wp2
   go_ret
   exact ⟨ret_bool HV.out, hb0.out _⟩
  obtain rfl : n = 0 := by omega
  clear d1 r1 r2
  have HR : Hid (rightV ⟨6, 0, t, xs⟩ = (decide (t.data.toList = []) && wordsRight xs)) := Lib.hid (by unfold rightV; rw [if_neg (by simp), if_neg (by simp), if_neg (by simp), if_neg (by simp), if_pos rfl]; simp)
  by_cases ht : t.data.toList = []
  ·have e0 : (t.toList == []) = true := by rw [toList_eq, ht]; rfl
   have e1 : t.toList.isEmpty = true := by rw [toList_eq, ht]; rfl
   have HV : Hid (rightV ⟨6, 0, t, xs⟩ = wordsRight xs) := Lib.hid (by rw [HR.out, decide_eq_true ht]; rfl)
   clear ht
   obtain ⟨bv, hbv⟩ : ∃ bv, wordsRight xs = bv := ⟨_, rfl⟩
   have HBV := Lib.hid hbv
   clear hbv
   go_enter Tryz.func108, Tryz.ntmps108
   go_wp2_with fail
   refine (bnd6 _).mono ?_
   rintro e w' ⟨rfl, rfl⟩
   have HAR := (HA.out.below (hb0.out (.cells #[.int .i64 6, .int .i64 0, .string t, .slice x L cap] 37)))
   have HCALL := Lib.hid (areRight_any (w.alloc (.cells #[.int .i64 6, .int .i64 0, .string t, .slice x L cap] 37)) x cap xs HAR.list HAR.room (HT.out.below (hb0.out _)) HAR.len HAR.sizes)
   clear HAR
   rw [HL.out, HBV.out] at HCALL
   go_wp2_with fail
   refine HCALL.out.mono ?_
   rintro e w1 ⟨rfl, hb⟩
   have HB := Lib.hid ((hb0.out (.cells #[.int .i64 6, .int .i64 0, .string t, .slice x L cap] 37)).trans (hb.mono (hb0.out _).size))
   clear hb HCALL
   go_wp2
   go_ret
   exact ⟨ret_bool (by rw [HV.out, HBV.out]), HB.out⟩
  ·have e0 := ne_text ht
   have e1 := emp_false' ht
   have HV : Hid (rightV ⟨6, 0, t, xs⟩ = false) := Lib.hid (by rw [HR.out, decide_eq_false ht]; rfl)
   clear ht
   go_enter Tryz.func108, Tryz.ntmps108
   go_wp2_with fail
   refine (bnd6 _).mono ?_
   rintro e w' ⟨rfl, rfl⟩
   go_wp2
   go_ret
   exact ⟨ret_bool HV.out, hb0.out _⟩
 have HV : Hid (rightV ⟨k, n, t, xs⟩ = false) := Lib.hid (by unfold rightV; rw [if_neg h1, if_neg h2, if_neg (by simp only; omega), if_neg h5, if_neg h6])
 have HB6 := Lib.hid (bnd0 h1 h2 h3 h4)
 have e1 : (k == 1) = false := beq_eq_false_iff_ne.2 h1
 have e2 : (k == 2) = false := beq_eq_false_iff_ne.2 h2
 have e3 : (k == 3) = false := beq_eq_false_iff_ne.2 h3
 have e4 : (k == 4) = false := beq_eq_false_iff_ne.2 h4
 have e5 : (k == 5) = false := beq_eq_false_iff_ne.2 h5
 have e6 : (k == 6) = false := beq_eq_false_iff_ne.2 h6
 clear h1 h2 h3 h4 h5 h6
 by_cases r1 : n < 0
 ·have d1 : decide (n < 0) = true := decide_eq_true r1
  clear r1
  go_enter Tryz.func108, Tryz.ntmps108
  go_wp2_with fail
  refine (HB6.out _).mono ?_
  rintro e w' ⟨rfl, rfl⟩
  go_wp2
  go_ret
  exact ⟨ret_bool HV.out, hb0.out _⟩
 have d1 : decide (n < 0) = false := decide_eq_false r1
 by_cases r2 : 0 < n
 ·have d2 : decide (0 < n) = true := decide_eq_true r2
  clear r1 r2
  go_enter Tryz.func108, Tryz.ntmps108
  go_wp2_with fail
  refine (HB6.out _).mono ?_
  rintro e w' ⟨rfl, rfl⟩
  go_wp2
  go_ret
  exact ⟨ret_bool HV.out, hb0.out _⟩
 have d2 : decide (0 < n) = false := decide_eq_false r2
 clear r1 r2
 go_enter Tryz.func108, Tryz.ntmps108
 go_wp2_with fail
 refine (HB6.out _).mono ?_
 rintro e w' ⟨rfl, rfl⟩
 go_wp2
 go_ret
 exact ⟨ret_bool HV.out, hb0.out _⟩
end Go.Proofs.YtlcgfdijohgnpaaGreatDoor
