/-
  GivLit.
-/
import Derived.Test.YtbgoooljkdjjhaaGreatDoorQGivOwn
import Derived.Laws.StructEq
namespace Go.Proofs.YtbgoooljkdjjhaaGreatDoor
open Go.ChangeShapes Go.WideShapes Go.ChangeAt Go.RowKit

theorem geql_self (g : GivV) (w : World) : (binOp .eql 27 (.agg #[.string g.name, .string g.text, .int .i64 g.at_]) (.agg #[.string g.name, .string g.text, .int .i64 g.at_])).run Tryz.prog w = .ok (.bool true) w := by
  have u3 := Tryz.underlying3
  have u9 := Tryz.underlying9
  have hS : Tryz.prog.underlying 27 = some (.struct (Tryz.prog.fieldsOf 27)) := by kernel_rfl
  have hp : Tryz.prog.stoodInHeld 27 = false := by kernel_rfl
  rw [run_eql_struct, show (10000 : Nat) = 9999 + 1 from rfl, run_equalIn_agg w 9999 27 _ _ hS hp]
  simp only [Program.fieldsOf, Tryz.underlying27]
  go_simp
theorem geql_guard (x y : Operand) (xs ys : Array Value) (w : World) : (eqGuard .eql 27 x y (.agg xs) (.agg ys)).run Tryz.prog w = .ok () w :=
  run_eqGuard_agg w .eql 27 x y xs ys (by kernel_rfl)
theorem TxAt.of_own {w : World} {B : Nat} {v : Value} {ts : List ByteArray} (h : w.ownsRow B 9 1 v ts.length (ts.map Value.string)) : ∃ x c, v = .slice x ts.length c ∧ TxAt w x ts := by
  rcases h.2 with ⟨h1, h2⟩ | ⟨g, cap, cur, h1, _, hg, _⟩
  · refine ⟨none, 0, by rw [h1, h2], fun k hk => ?_⟩
    omega
  · refine ⟨_, _, h1, fun k hk => ⟨g, 0, rfl, (Array.getElem?_eq_some_iff.1 hg).1, ?_⟩⟩
    have hv := h
    rw [h1] at hv
    rw [Nat.zero_add, hv.cellAt k (by simpa using hk), List.getElem?_map, List.getElem?_eq_getElem hk]; rfl
theorem texts_lit (W : World) (ts : List ByteArray) (cs : Array Value) (hcs : cs = (ts.map Value.string).toArray) (t : TypeId) : TxAt (W.alloc (Obj.cells cs t)) (some ⟨W.heap.size, 0, none⟩) ts := fun k hk => by
  subst hcs
  refine ⟨W.heap.size, 0, rfl, by simp, ?_⟩
  rw [Nat.zero_add, World.cell?_alloc_at _ _ _ _ rfl]
  simp [hk]
theorem givs_lit (W : World) (gs : List GivV) (cs : Array Value) (hcs : cs = (gFlat gs).toArray) (t : TypeId) : Givs (W.alloc (Obj.cells cs t)) (some ⟨W.heap.size, 0, none⟩) gs := by
  subst hcs
  refine Givs.of_cells (by simp) fun j u hj => ?_
  rw [Nat.zero_add, World.cell?_alloc_at _ _ _ _ rfl]
  simpa using hj
theorem gneq_self (g : GivV) (w : World) : (binOp .neq 27 (.agg #[.string g.name, .string g.text, .int .i64 g.at_]) (.agg #[.string g.name, .string g.text, .int .i64 g.at_])).run Tryz.prog w = .ok (.bool false) w := by
  have u3 := Tryz.underlying3
  have u9 := Tryz.underlying9
  have hS : Tryz.prog.underlying 27 = some (.struct (Tryz.prog.fieldsOf 27)) := by kernel_rfl
  have hp : Tryz.prog.stoodInHeld 27 = false := by kernel_rfl
  rw [run_neq_struct, show (10000 : Nat) = 9999 + 1 from rfl, run_equalIn_agg w 9999 27 _ _ hS hp]
  simp only [Program.fieldsOf, Tryz.underlying27]
  go_simp
theorem gneq_guard (x y : Operand) (xs ys : Array Value) (w : World) : (eqGuard .neq 27 x y (.agg xs) (.agg ys)).run Tryz.prog w = .ok () w :=
  run_eqGuard_agg w .neq 27 x y xs ys (by kernel_rfl)
end Go.Proofs.YtbgoooljkdjjhaaGreatDoor
