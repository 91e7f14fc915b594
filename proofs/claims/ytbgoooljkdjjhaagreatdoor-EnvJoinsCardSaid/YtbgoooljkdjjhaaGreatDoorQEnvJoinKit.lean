/-
  EnvJoinKit.
-/
import Derived.Test.YtbgoooljkdjjhaaGreatDoorQEnvMade
import Derived.Test.YtbgoooljkdjjhaaGreatDoorQEnvWeigh
import Derived.Test.YtbgoooljkdjjhaaGreatDoorQEnvJoinMath
import Derived.Test.YtbgoooljkdjjhaaGreatDoorQRowOps
import Derived.Test.YtbgoooljkdjjhaaGreatDoorQTxKit
namespace Go.Proofs.YtbgoooljkdjjhaaGreatDoor
open Go.ChangeShapes Go.WideShapes Go.ChangeAt Go.RowKit

theorem run_append_zero (w : World) (x : Option Addr) (n c : Nat) (hc : n ≤ c) (y : Option Addr) (d : Nat) (ty : TypeId) :
    (Builtin.append_ #[33, 33] ty #[.slice x n c, .slice y 0 d]).run Tryz.prog w = .ok (.slice x n c) w := by
  obtain ⟨i0, hi, hz0, hz1, hz2⟩ := info_parts infoTx
  have u3 := Tryz.underlying9
  cases x with
  | none =>
    cases y with
    | none => simp [Builtin.append_, run_underlying Tryz.underlying33, Builtin.lenOf, Builtin.firstCells, sizeOf, typeInfo, hi, hc]
    | some a =>
      have h0 := run_loadCells_list (P := Tryz.prog) w a [] (fun j v h => by simp at h)
      simp at h0
      simp [Builtin.append_, run_underlying Tryz.underlying33, Builtin.lenOf, Builtin.firstCells, sizeOf, typeInfo, hi, hc, h0]
  | some b =>
    cases y with
    | none => simp [Builtin.append_, run_underlying Tryz.underlying33, Builtin.lenOf, Builtin.firstCells, sizeOf, typeInfo, hi, hc, storeCells]
    | some a =>
      have h0 := run_loadCells_list (P := Tryz.prog) w a [] (fun j v h => by simp at h)
      simp at h0
      simp [Builtin.append_, run_underlying Tryz.underlying33, Builtin.lenOf, Builtin.firstCells, sizeOf, typeInfo, hi, hc, h0, storeCells]
/-- Texts go to a list of a call's own, all of a list. -/
theorem appendXs {ops : Array Oper} {rest : List Oper} {o : Oper} {a : Act} {Q : Exit → Act → World → Prop} (hgd : o.guard = none) (s x : Operand)
    (ho : o.op = .call { callee := .builtin .append, args := #[s, x], argTypes := #[33, 33] }) {w0 w : World} {x0 : Option Addr} {n0 c0 : Nat} {ts us : List ByteArray} (hown : OwnX w0 w (.slice x0 n0 c0) ts) (hn0 : ts.length = n0) {y : Option Addr} {m c : Nat} (htx : TxAt w y us) (hm : us.length = m) (hs : a.eval s = .slice x0 n0 c0) (hx : a.eval x = .slice y m c)
    (hb : n0 + m ≤ 10000000000)
    (h : ∀ z cap w', OwnX w0 w' (.slice z (n0 + m) cap) (ts ++ us) → wpList Tryz.prog ops Q rest (a.put o.dst (.slice z (n0 + m) cap)) w') : wpList Tryz.prog ops Q (o :: rest) a w := by
  subst hm hn0
  obtain ⟨i0, hi, hz0, hz1, hz2⟩ := info_parts infoTx
  have hz := hown.below.size
  by_cases h0 : us.length = 0
  · have hus : us = [] := List.eq_nil_of_length_eq_zero h0
    subst hus
    have hc : ts.length ≤ c0 := by
      rcases hown.own.2 with ⟨h1, h2⟩ | ⟨g, cap, cur, h1, _, _, hnc, _⟩
      · injection h1 with _ _ h3; omega
      · injection h1 with _ _ h3; omega
    have hh := h x0 c0 w (by simpa using hown)
    simp only [List.length_nil, Nat.add_zero] at hh hx
    exact wpList_append_eq hgd s x _ _ ho _ _ _ hs hx (run_append_zero w x0 ts.length c0 hc y c o.type) hh
  · obtain ⟨b, off, hy, _, _⟩ := htx 0 (by omega)
    subst hy
    refine wpList_append_lies _ hgd s x _ ho w0.heap.size 9 i0 _ 1 16 Tryz.underlying33 hi hz0 hz1 hz2 rfl (by decide) _ ts.length (ts.map Value.string) hs hown.own ⟨b, off, none⟩ us.length c (us.map Value.string) hx (by simp) (fun j u hj => ?_) ?_ (by omega) (by unfold maxLen; omega) (by omega) (by omega) _ rfl ?_
    · have hjl : j < us.length := by have := (List.getElem?_eq_some_iff.1 hj).1; simpa using this
      obtain ⟨b', off', e, _, hc⟩ := htx j hjl
      obtain ⟨rfl, rfl⟩ : b = b' ∧ off = off' := by simpa using e
      rw [add_at, hc]
      rw [List.getElem?_map, List.getElem?_eq_getElem hjl] at hj
      exact hj
    · intro u hu
      obtain ⟨t, _, rfl⟩ := List.mem_map.1 hu
      rfl
    · intro g cap w1 h1 h2 _ _
      refine h (some ⟨g, 0, none⟩) cap w1 ⟨?_, hown.below.grown h2 (by omega) (fun k hk => (hown.own.lt k hk).1)⟩
      rw [List.length_append, List.map_append]
      exact h1
end Go.Proofs.YtbgoooljkdjjhaaGreatDoor
