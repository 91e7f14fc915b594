/-
  ValueBool.
-/
import Derived.Test.YtbgoooljkdjjhaaGreatDoorQValueNum
namespace Go.Proofs.YtbgoooljkdjjhaaGreatDoor
open Go.ChangeShapes Go.WideShapes Go.ChangeAt Go.RowKit

set_option maxHeartbeats 800000 in
theorem parseBool_any (s : ByteArray) (w : World) :
    Calls Tryz.prog 107 #[.string s] w fun e w' => e = .returned (numR (intOk 1 (boolV s.data.toList))) ∧ Below w.heap.size w w' := by
  by_cases q0 : s.data.toList = [116, 114, 117, 101]
  · obtain rfl := eq_text q0
    go_enter Tryz.func107, Tryz.ntmps107
    unfold mkB
    go_wp2
    exact bodyPost_ret (v := .tuple #[.agg #[.int .i64 1, .int .i64 1, .string ⟨#[]⟩, .slice none 0 0], .int .i64 0]) (by simp [results, Tryz.results107, go_sem]) rfl ⟨rfl, (Below.refl _ _).alloc (Nat.le_refl _) _⟩
  by_cases q1 : s.data.toList = [121, 101, 115]
  · obtain rfl := eq_text q1
    go_enter Tryz.func107, Tryz.ntmps107
    unfold mkB
    go_wp2
    exact bodyPost_ret (v := .tuple #[.agg #[.int .i64 1, .int .i64 1, .string ⟨#[]⟩, .slice none 0 0], .int .i64 0]) (by simp [results, Tryz.results107, go_sem]) rfl ⟨rfl, (Below.refl _ _).alloc (Nat.le_refl _) _⟩
  by_cases q2 : s.data.toList = [111, 110]
  · obtain rfl := eq_text q2
    go_enter Tryz.func107, Tryz.ntmps107
    unfold mkB
    go_wp2
    exact bodyPost_ret (v := .tuple #[.agg #[.int .i64 1, .int .i64 1, .string ⟨#[]⟩, .slice none 0 0], .int .i64 0]) (by simp [results, Tryz.results107, go_sem]) rfl ⟨rfl, (Below.refl _ _).alloc (Nat.le_refl _) _⟩
  by_cases q3 : s.data.toList = [102, 97, 108, 115, 101]
  · obtain rfl := eq_text q3
    go_enter Tryz.func107, Tryz.ntmps107
    unfold mkB
    go_wp2
    exact bodyPost_ret (v := .tuple #[.agg #[.int .i64 1, .int .i64 0, .string ⟨#[]⟩, .slice none 0 0], .int .i64 0]) (by simp [results, Tryz.results107, go_sem]) rfl ⟨rfl, (Below.refl _ _).alloc (Nat.le_refl _) _⟩
  by_cases q4 : s.data.toList = [110, 111]
  · obtain rfl := eq_text q4
    go_enter Tryz.func107, Tryz.ntmps107
    unfold mkB
    go_wp2
    exact bodyPost_ret (v := .tuple #[.agg #[.int .i64 1, .int .i64 0, .string ⟨#[]⟩, .slice none 0 0], .int .i64 0]) (by simp [results, Tryz.results107, go_sem]) rfl ⟨rfl, (Below.refl _ _).alloc (Nat.le_refl _) _⟩
  by_cases q5 : s.data.toList = [111, 102, 102]
  · obtain rfl := eq_text q5
    go_enter Tryz.func107, Tryz.ntmps107
    unfold mkB
    go_wp2
    exact bodyPost_ret (v := .tuple #[.agg #[.int .i64 1, .int .i64 0, .string ⟨#[]⟩, .slice none 0 0], .int .i64 0]) (by simp [results, Tryz.results107, go_sem]) rfl ⟨rfl, (Below.refl _ _).alloc (Nat.le_refl _) _⟩
  rw [boolV, if_neg (by rintro (h | h | h) <;> contradiction), if_neg (by rintro (h | h | h) <;> contradiction)]
  have e0 := ne_text q0
  have e1 := ne_text q1
  have e2 := ne_text q2
  have e3 := ne_text q3
  have e4 := ne_text q4
  have e5 := ne_text q5
  clear q0 q1 q2 q3 q4 q5
  go_enter Tryz.func107, Tryz.ntmps107
  go_wp2
  exact bodyPost_ret (v := .tuple #[.agg #[.int .i64 0, .int .i64 0, .string ⟨#[]⟩, .slice none 0 0], .int .i64 40]) (by simp [results, Tryz.results107, go_sem]) rfl ⟨rfl, (Below.refl _ _).alloc (Nat.le_refl _) _⟩
end Go.Proofs.YtbgoooljkdjjhaaGreatDoor
