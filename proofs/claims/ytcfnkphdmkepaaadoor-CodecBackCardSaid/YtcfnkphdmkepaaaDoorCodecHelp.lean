/-
  The laws' own small functions: 'pick', 'add', 'number', 'text', 'size'.
-/
import Derived.Test.YtcfnkphdmkepaaaDoorCodecRef
import Derived.Test.YtcfnkphdmkepaaaDoorCodecReader
import Derived.WalkSpells
namespace Go.Proofs.YtcfnkphdmkepaaaDoor
open Go.ChangeShapes Go.WideShapes Go.ChangeAt Go.RowKit

def pickV (c n : Int) : Int := (if c < 0 then -(c + 1) else c) % n
theorem pickV_bd (c n : Int) (h : 0 < n) : 0 ≤ pickV c n ∧ pickV c n < n := ⟨Int.emod_nonneg _ (by omega), Int.emod_lt_of_pos _ h⟩
def addV (n m : Int) : Int := if 2147483647 - n < m then 2147483648 else n + m
def numV (n : Int) : Int := (if n < 0 then -(n + 1) else n) % 4611686018427387905
def textV (s : ByteArray) : ByteArray := if 65535 < s.size then s.extract 0 65535 else s
theorem textV_size (s : ByteArray) : (textV s).size ≤ 65535 ∧ (textV s).size ≤ s.size := by
  unfold textV; split
  · rw [ByteArray.size_extract]; omega
  · omega

theorem pick_any (c n : Int) (w : World) (h1 : -9223372036854775808 ≤ c) (h2 : c ≤ 9223372036854775807) (hn : 0 < n) (hn2 : n ≤ 70000) :
    Calls Tryd.prog 10 #[.int .i64 c, .int .i64 n] w fun e w' => e = .returned (.int .i64 (pickV c n)) ∧ w = w' := by
  have hz : (n == 0) = false := by simp; omega
  by_cases hc : c < 0
  · have e0 : pickV c n = (-(c + 1)) % n := by rw [pickV, if_pos hc]
    have e1 : (-(c + 1)).tmod n = (-(c + 1)) % n := Int.tmod_eq_emod_of_nonneg (by omega)
    have e2 : IntKind.i64.wrap (-(c + 1)) = -(c + 1) := IntWalk.i64_in _ (by omega)
    have e3 : IntKind.i64.wrap (c + 1) = c + 1 := IntWalk.i64_in _ (by omega)
    have b1 := Int.emod_nonneg (-(c + 1)) (show n ≠ 0 by omega)
    have b2 := Int.emod_lt_of_pos (-(c + 1)) hn
    have e4 : IntKind.i64.wrap ((-(c + 1)) % n) = (-(c + 1)) % n := IntWalk.i64_in _ (by omega)
    rw [e0]
    clear e0
    go_enter Tryd.func10, Tryd.ntmps10
    go_wp2
    go_ret
    exact ⟨rfl, rfl⟩
  · have e0 : pickV c n = c % n := by rw [pickV, if_neg hc]
    rw [e0]
    clear e0
    go_enter Tryd.func10, Tryd.ntmps10
    go_wp2
    go_ret
    exact ⟨rfl, rfl⟩

theorem add_any (n m : Int) (w : World) (h1 : 0 ≤ n) (h2 : n ≤ 9223372036854775807) (h3 : 0 ≤ m) :
    Calls Tryd.prog 13 #[.int .i64 n, .int .i64 m] w fun e w' => e = .returned (.int .i64 (addV n m)) ∧ w = w' := by
  by_cases h : 2147483647 - n < m
  · have e0 : addV n m = 2147483648 := if_pos h
    rw [e0]
    clear e0
    go_enter Tryd.func13, Tryd.ntmps13
    go_wp2
    go_ret
    exact ⟨rfl, rfl⟩
  · have e0 : addV n m = n + m := if_neg h
    rw [e0]
    have hm : m ≤ 2147483647 := by omega
    clear e0
    go_enter Tryd.func13, Tryd.ntmps13
    go_wp2
    go_ret
    exact ⟨rfl, rfl⟩

set_option maxRecDepth 100000 in
theorem number_any (n : Int) (w : World) (h1 : -9223372036854775808 ≤ n) (h2 : n ≤ 9223372036854775807) :
    Calls Tryd.prog 17 #[.int .i64 n] w fun e w' => e = .returned (.int .i64 (numV n)) ∧ w = w' := by
  by_cases hc : n < 0
  · have e0 : numV n = (-(n + 1)) % 4611686018427387905 := by rw [numV, if_pos hc]
    have e2 : IntKind.i64.wrap (-(n + 1)) = -(n + 1) := IntWalk.i64_in _ (by omega)
    rw [e0]
    clear e0
    go_enter Tryd.func17, Tryd.ntmps17
    go_wp2
    go_ret
    exact ⟨ret_int (by rw [← Int.neg_tmod]; exact Int.tmod_eq_emod_of_nonneg (by omega)), rfl⟩
  · have e0 : numV n = n % 4611686018427387905 := by rw [numV, if_neg hc]
    rw [e0]
    clear e0
    go_enter Tryd.func17, Tryd.ntmps17
    go_wp2
    go_ret
    exact ⟨rfl, rfl⟩

theorem ltext_any (s : ByteArray) (w : World) (hs : s.size ≤ 9223372036854775807) :
    Calls Tryd.prog 15 #[.string s] w fun e w' => e = .returned (.string (textV s)) ∧ w = w' := by
  by_cases h : 65535 < s.size
  · have e0 : textV s = s.extract 0 65535 := if_pos h
    rw [e0]
    clear e0
    have q : (65535 : Int) ≤ s.size := by omega
    go_enter Tryd.func15, Tryd.ntmps15
    go_wp2
    go_ret
    exact ⟨rfl, rfl⟩
  · have e0 : textV s = s := if_neg h
    rw [e0]
    clear e0
    go_enter Tryd.func15, Tryd.ntmps15
    go_wp2
    go_ret
    exact ⟨rfl, rfl⟩
end Go.Proofs.YtcfnkphdmkepaaaDoor
