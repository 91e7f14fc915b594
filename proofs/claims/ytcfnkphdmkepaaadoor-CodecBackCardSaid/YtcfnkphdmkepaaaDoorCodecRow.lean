/-
  The walks of 'codec.rowOf' (of int and of uint64), 'codec.rowOfText' and the document's own 'Row'.
-/
import Derived.Test.YtcfnkphdmkepaaaDoorBytes
import Derived.Test.YtcfnkphdmkepaaaDoorCodecMath
import Derived.Test.YtcfnkphdmkepaaaDoorCodecAs
import Derived.Lib.AppendStr
namespace Go.Proofs.YtcfnkphdmkepaaaDoor
open Go.ChangeShapes Go.WideShapes Go.ChangeAt Go.RowKit

theorem or128 (m : Nat) : bits .or .u8 ((m : Int) % 256) 128 = ((UInt8.ofNat (128 + m % 128)).toNat : Int) := by
  have key : ∀ k : Fin 256, bits .or .u8 (k.val : Int) 128 = 128 + (k.val : Int) % 128 := by decide +kernel
  have h1 : (m : Int) % 256 = ((m % 256 : Nat) : Int) := by omega
  rw [h1, key ⟨m % 256, by omega⟩, b_hi]
  simp only; omega
theorem wrap8 (m : Nat) (h : m < 128) : IntKind.u8.wrap (m : Int) = ((UInt8.ofNat m).toNat : Int) := by
  rw [b_lo m h, IntKind.wrap_u8]; omega

/-- What is laid in a row's block before the rest m of it. -/
def Rowing (w0 w : World) (v : Value) (n m : Nat) : Prop := m ≤ 4611686018427387904 ∧ ∃ p, Own8 w0 w v p ∧ p.length ≤ 9 ∧ p ++ rowL m = rowL n
theorem Rowing.step {w0 w : World} {v : Value} {n m : Nat} {p : List UInt8} (ho : Own8 w0 w v (p ++ [UInt8.ofNat (128 + m % 128)])) (h : p ++ rowL m = rowL n) (hm : ¬ m < 128) (hb : m ≤ 4611686018427387904) (hl : (rowL n).length ≤ 9) : Rowing w0 w v n (m / 128) := by
  rw [rowL_great hm] at h
  refine ⟨by omega, _, ho, ?_, by simpa using h⟩
  have := congrArg List.length h
  simp only [List.length_append, List.length_cons, List.length_nil] at this ⊢
  omega
theorem Rowing.last {w0 w : World} {v : Value} {n m : Nat} {p : List UInt8} (ho : Own8 w0 w v (p ++ [UInt8.ofNat m])) (h : p ++ rowL m = rowL n) (hm : m < 128) : Own8 w0 w v (rowL n) := by
  rw [rowL_small hm] at h
  rw [← h]; exact ho

set_option maxRecDepth 100000 in
set_option maxHeartbeats 800000 in
theorem rowOf_int (n : Nat) (w : World) (hn : n ≤ 4611686018427387904) :
    Calls Tryd.prog 30 #[.int .i64 n] w fun e w' => ∃ v, e = .returned (.tuple #[v, .nilIface]) ∧ Own8 w w' v (rowL n) := by
  obtain ⟨i0, hi, hz0, hz1, hz2⟩ := info_parts info8
  have H0 := Lib.hid hi
  have H1 := Lib.hid hz0
  have H2 := Lib.hid hz1
  have H3 := Lib.hid hz2
  clear hi hz0 hz1 hz2
  have hL := rowL_len9 hn
  have hw : IntKind.u64.wrap (n : Int) = n := IntWalk.u64_in _ (by omega)
  have HN := Lib.hid hn
  have hd : decide ((4611686018427387904 : Int) < (n : Int)) = false := decide_eq_false (by omega)
  have hd0 : decide ((n : Int) < 0) = false := decide_eq_false (by omega)
  clear hn
  go_enter Tryd.func30, Tryd.ntmps30
  go_wp2_with (at_make; refine wpList_make_own _ rfl _ _ 57 rfl w.heap.size 5 i0 (.int .u8 0) 1 Tryd.underlying57 H0.out H1.out H2.out .i64 .i64 _ 9 rfl rfl (by omega) (by rw [H3.out]; omega) (by unfold maxLen; omega) (Nat.le_refl _) ?_; intro w1 h1 h2; have ho := Own8.made (Below.refl _ _) h1 h2; clear h1 h2)
  clear H0 H1 H2 H3 hw hd hd0
  go_loopw [4, 5] (fun v r wr => ∃ m : Nat, r = .int .u64 m ∧ Rowing w wr v n m) (fun _ r _ => (intOf r).toNat)
  case atStart => exact ⟨n, rfl, HN.out, [], ho, by simp, rfl⟩
  case round =>
    clear ho
    obtain ⟨m, rfl, hm0, p, ho, hp, hpr⟩ := hrel
    have HM := Lib.hid hm0
    have HR := Lib.hid hpr
    by_cases hm : m < 128
    · have hc := wrap8 m hm
      clear hm0 hpr
      go_wp2_with (at_builtin; refine append8 rfl _ _ rfl ho rfl [UInt8.ofNat m] _ rfl rfl rfl rfl (by simp; omega) ?_; intro v2 w2 ho2)
      go_ret2
      exact ⟨_, rfl, Rowing.last ho2 HR.out hm⟩
    · have hc := or128 m
      clear hm0 hpr
      go_wp2_with (at_builtin; refine append8 rfl _ _ rfl ho rfl [UInt8.ofNat (128 + m % 128)] _ rfl rfl rfl rfl (by simp; omega) ?_; intro v2 w2 ho2)
      go_roundw
      case rel => exact ⟨m / 128, by go_num, Rowing.step ho2 HR.out hm HM.out hL⟩
      case measure => simp [intOf]; omega

set_option maxRecDepth 100000 in
theorem rowOf_int_no (n : Int) (w : World) (hn : n < 0 ∨ 4611686018427387904 < n) (hw : n < 9223372036854775808) :
    Calls Tryd.prog 30 #[.int .i64 n] w fun e w' => e = .returned (.tuple #[.slice none 0 0, errV 30]) ∧ w = w' := by
  by_cases h0 : n < 0
  · have hd0 : decide (n < 0) = true := decide_eq_true h0
    clear hn hw
    go_enter Tryd.func30, Tryd.ntmps30
    go_wp2
    go_ret2
    exact ⟨rfl, rfl⟩
  · have hd0 : decide (n < 0) = false := decide_eq_false h0
    have hd : decide ((4611686018427387904 : Int) < n) = true := decide_eq_true (by omega)
    have hw : IntKind.u64.wrap n = n := IntWalk.u64_in _ (by omega)
    clear hn
    go_enter Tryd.func30, Tryd.ntmps30
    go_wp2
    go_ret2
    exact ⟨rfl, rfl⟩

set_option maxRecDepth 100000 in
set_option maxHeartbeats 800000 in
theorem rowOf_u64 (n : Nat) (w : World) (hn : n ≤ 4611686018427387904) :
    Calls Tryd.prog 39 #[.int .u64 n] w fun e w' => ∃ v, e = .returned (.tuple #[v, .nilIface]) ∧ Own8 w w' v (rowL n) := by
  obtain ⟨i0, hi, hz0, hz1, hz2⟩ := info_parts info8
  have H0 := Lib.hid hi
  have H1 := Lib.hid hz0
  have H2 := Lib.hid hz1
  have H3 := Lib.hid hz2
  clear hi hz0 hz1 hz2
  have hL := rowL_len9 hn
  have HN := Lib.hid hn
  have hd : decide ((4611686018427387904 : Int) < (n : Int)) = false := decide_eq_false (by omega)
  have hd0 : decide ((n : Int) < 0) = false := decide_eq_false (by omega)
  clear hn
  go_enter Tryd.func39, Tryd.ntmps39
  go_wp2_with (at_make; refine wpList_make_own _ rfl _ _ 57 rfl w.heap.size 5 i0 (.int .u8 0) 1 Tryd.underlying57 H0.out H1.out H2.out .i64 .i64 _ 9 rfl rfl (by omega) (by rw [H3.out]; omega) (by unfold maxLen; omega) (Nat.le_refl _) ?_; intro w1 h1 h2; have ho := Own8.made (Below.refl _ _) h1 h2; clear h1 h2)
  clear H0 H1 H2 H3 hd hd0
  go_loopw [4, 5] (fun v r wr => ∃ m : Nat, r = .int .u64 m ∧ Rowing w wr v n m) (fun _ r _ => (intOf r).toNat)
  case atStart => exact ⟨n, rfl, HN.out, [], ho, by simp, rfl⟩
  case round =>
    clear ho
    obtain ⟨m, rfl, hm0, p, ho, hp, hpr⟩ := hrel
    have HM := Lib.hid hm0
    have HR := Lib.hid hpr
    by_cases hm : m < 128
    · have hc := wrap8 m hm
      clear hm0 hpr
      go_wp2_with (at_builtin; refine append8 rfl _ _ rfl ho rfl [UInt8.ofNat m] _ rfl rfl rfl rfl (by simp; omega) ?_; intro v2 w2 ho2)
      go_ret2
      exact ⟨_, rfl, Rowing.last ho2 HR.out hm⟩
    · have hc := or128 m
      clear hm0 hpr
      go_wp2_with (at_builtin; refine append8 rfl _ _ rfl ho rfl [UInt8.ofNat (128 + m % 128)] _ rfl rfl rfl rfl (by simp; omega) ?_; intro v2 w2 ho2)
      go_roundw
      case rel => exact ⟨m / 128, by go_num, Rowing.step ho2 HR.out hm HM.out hL⟩
      case measure => simp [intOf]; omega

set_option maxRecDepth 100000 in
theorem rowOf_u64_no (n : Nat) (w : World) (hn : 4611686018427387904 < n) :
    Calls Tryd.prog 39 #[.int .u64 n] w fun e w' => e = .returned (.tuple #[.slice none 0 0, errV 30]) ∧ w = w' := by
  have hd0 : decide ((n : Int) < 0) = false := decide_eq_false (by omega)
  have hd : decide ((4611686018427387904 : Int) < (n : Int)) = true := decide_eq_true (by omega)
  clear hn
  go_enter Tryd.func39, Tryd.ntmps39
  go_wp2
  go_ret2
  exact ⟨rfl, rfl⟩

/-- 'append(v, s...)' of a string's bytes. -/
theorem appendS {ops : Array Oper} {rest : List Oper} {o : Oper} {a : Act} {Q : Exit → Act → World → Prop} (hgd : o.guard = none) (s x : Operand)
    (ho : o.op = .call { callee := .builtin .append, args := #[s, x], argTypes := #[57, 9] })
    {w0 w : World} {v : Value} {l : List UInt8} (hown : Own8 w0 w v l) (hs : a.eval s = v) (t : ByteArray) (hx : a.eval x = .string t) (hb : l.length + t.size ≤ 70368744177664)
    (h : ∀ v' w', Own8 w0 w' v' (l ++ t.data.toList) → wpList Tryd.prog ops Q rest (a.put o.dst v') w') : wpList Tryd.prog ops Q (o :: rest) a w := by
  obtain ⟨i0, hi, hz0, hz1, hz2⟩ := info_parts info8
  refine Lib.wpList_append_own_string w hgd s x 57 9 ho w0.heap.size 5 i0 Tryd.underlying57 Tryd.underlying9 hi hz0 hz1 hz2 v l.length (l.map b8) hs hown.own t hx (by unfold maxLen; omega) (by omega) hown.below.size ?_
  intro v' w' h1 h2 _
  refine h v' w' ⟨?_, hown.below.grown h2 hown.below.size (fun k hk => (hown.own.lt k hk).1)⟩
  have e : l.map b8 ++ Lib.strCells t = (l ++ t.data.toList).map b8 := by rw [List.map_append]; rfl
  have e2 : (l ++ t.data.toList).length = l.length + t.size := by rw [List.length_append]; simp
  rw [← e, e2]; exact h1

set_option maxRecDepth 100000 in
theorem rowOfText_any (s : ByteArray) (w : World) (hs : s.size ≤ 65535) :
    Calls Tryd.prog 28 #[.string s] w fun e w' => ∃ v, e = .returned (.tuple #[v, .nilIface]) ∧ Own8 w w' v (rowL s.size ++ s.data.toList) := by
  have hl := rowL_len3 hs
  go_enter Tryd.func28, Tryd.ntmps28
  go_wp2_with (first
    | (go_at_call 30; refine (rowOf_int s.size _ (by omega)).mono ?_; rintro e w1 ⟨v1, rfl, ho⟩)
    | (at_builtin; refine appendS rfl _ _ rfl ho rfl s rfl (by omega) ?_; intro v2 w2 ho2))
  go_ret2
  exact ⟨_, rfl, ho2⟩
theorem rowOfText_no (s : ByteArray) (w : World) (hs : 65535 < s.size) :
    Calls Tryd.prog 28 #[.string s] w fun e w' => e = .returned (.tuple #[.slice none 0 0, errV 31]) ∧ w = w' := by
  go_enter Tryd.func28, Tryd.ntmps28
  go_wp2
  go_ret2
  exact ⟨rfl, rfl⟩

theorem hi8 (m : Nat) : IntKind.u8.wrap (128 + (m : Int) % 128) = ((UInt8.ofNat (128 + m % 128)).toNat : Int) := by
  rw [b_hi, IntKind.wrap_u8]; omega

set_option maxRecDepth 100000 in
set_option maxHeartbeats 800000 in
theorem refRow_any (n : Nat) (w : World) (hn : n ≤ 4611686018427387904) :
    Calls Tryd.prog 35 #[.int .i64 n] w fun e w' => e = .returned (str (rowL n)) ∧ Below w.heap.size w w' := by
  have hL := rowL_len9 hn
  have HN := Lib.hid hn
  clear hn
  go_enter Tryd.func35, Tryd.ntmps35
  go_wp2
  go_loopw [0, 3] (fun r v wr => ∃ m : Nat, r = .int .i64 m ∧ Rowing w wr v n m) (fun r _ _ => (intOf r).toNat)
  case atStart => exact ⟨n, rfl, HN.out, [], Own8.nil_ _, by simp, rfl⟩
  case round =>
    obtain ⟨m, rfl, hm0, p, ho, hp, hpr⟩ := hrel
    have HM := Lib.hid hm0
    have HR := Lib.hid hpr
    by_cases hm : m < 128
    · have hc := wrap8 m hm
      have hd : decide ((127 : Int) < (m : Int)) = false := decide_eq_false (by omega)
      clear hm0 hpr
      go_wp2_with (at_builtin; refine append8 rfl _ _ rfl ho rfl [UInt8.ofNat m] _ rfl rfl rfl rfl (by simp; omega) ?_; intro v2 w2 ho2; have ho3 := Rowing.last ho2 HR.out hm; have hst := ho3.string 9 57 Tryd.underlying9 Tryd.underlying57 Tryd.underlying5)
      go_ret
      exact ⟨rfl, ho3.below⟩
    · have hc := hi8 m
      have hd : decide ((127 : Int) < (m : Int)) = true := decide_eq_true (by omega)
      have q1 : (0 : Int) ≤ (m : Int) % 128 := by omega
      have q2 : (m : Int) % 128 < 128 := by omega
      have q3 : (m : Int) ≤ 9223372036854775807 := by omega
      clear hm0 hpr
      go_wp2_with (at_builtin; refine append8 rfl _ _ rfl ho rfl [UInt8.ofNat (128 + m % 128)] _ rfl rfl rfl rfl (by simp; omega) ?_; intro v2 w2 ho2)
      go_roundw
      case rel => exact ⟨m / 128, by go_num, Rowing.step ho2 HR.out hm HM.out hL⟩
      case measure => simp [intOf]; omega
end Go.Proofs.YtcfnkphdmkepaaaDoor
