/-
  The deferred closure of package ini's Parse, entered while a fault is on its way.
-/
import Derived.Test.YtbpbiakdigjcnaaDoorIniRead
import Derived.Defers
import Derived.Recover
import Derived.Laws.Pointers
namespace Go.Proofs.YtbpbiakdigjcnaaDoor
open Go.ChangeShapes Go.WideShapes Go.ChangeAt Go.RowKit

set_option maxHeartbeats 1600000 in
set_option maxRecDepth 100000 in
theorem caught_any (a b c : Nat) (e n : Int) (va : Value) (vb vc : Int) (older : List PanicEntry) (w : World) (ha : w.cell? ⟨a, 0, none⟩ = some va) (hb : w.cell? ⟨b, 0, none⟩ = some (.int .i64 vb)) (hc : w.cell? ⟨c, 0, none⟩ = some (.int .i64 vc)) (fa : w.frozen? ⟨a, 0, none⟩ = false) (fb : w.frozen? ⟨b, 0, none⟩ = false) (fc : w.frozen? ⟨c, 0, none⟩ = false) (hab : a ≠ b) (hac : a ≠ c) (hbc : b ≠ c) :
    CallsD Tryd.prog 27 #[.pointer (some ⟨a, 0, none⟩), .pointer (some ⟨b, 0, none⟩), .pointer (some ⟨c, 0, none⟩)] (.panicking ({ v := faultV e n, recovered := false } :: older)) w fun e' u' w' =>
      e' = .returned (.tuple #[]) ∧ u' = .panicking ({ v := faultV e n, recovered := true } :: older) ∧ w' = ((((w.alloc (Obj.cells #[.int .i64 e, .int .i64 n] 48)).setCell ⟨a, 0, none⟩ (.slice none 0 0)).setCell ⟨b, 0, none⟩ (.int .i64 e)).setCell ⟨c, 0, none⟩ (.int .i64 n)).drew := by
  refine callsD_of_wpS Tryd.func27 rfl fun c₀ cs hu => ?_
  unfold faultV at hu ⊢
  apply wpS_seq
  apply wpS_region
  simp [wpOpsS, go_sem, recoverD, hu, Tryd.ntmps27, Exit.thenS]
  apply wpS_seq
  apply wpS_region
  simp [wpOpsS, go_sem, Exit.thenS]
  refine wpS_cond (t := true) (by simp [Act.eval, Array.replicate]) ?_
  simp only [if_true]
  refine wpS_of_wp ?_
  have hta : ∀ (v : Value) (xT : TypeId) (w : World), (Instr.typeAssert (.iface 48 v) xT 48 false).run Tryd.prog w = .ok v w := fun v xT w => by simp [Instr.typeAssert, run_underlying Tryd.underlying48]
  simp only [Array.replicate, List.replicate]
  have hW : Below w.heap.size w (w.alloc (Obj.cells #[.int .i64 e, .int .i64 n] 48)) := below_one w _
  have la := lt_of_cell ha
  have lb := lt_of_cell hb
  have lc := lt_of_cell hc
  have ga : (w.alloc (Obj.cells #[.int .i64 e, .int .i64 n] 48)).cell? ⟨a, 0, none⟩ = some va := (hW.cell (p := ⟨a, 0, none⟩) la).trans ha
  have gb : (w.alloc (Obj.cells #[.int .i64 e, .int .i64 n] 48)).cell? ⟨b, 0, none⟩ = some (.int .i64 vb) := (hW.cell (p := ⟨b, 0, none⟩) lb).trans hb
  have gc : (w.alloc (Obj.cells #[.int .i64 e, .int .i64 n] 48)).cell? ⟨c, 0, none⟩ = some (.int .i64 vc) := (hW.cell (p := ⟨c, 0, none⟩) lc).trans hc
  have ka : (w.alloc (Obj.cells #[.int .i64 e, .int .i64 n] 48)).frozen? ⟨a, 0, none⟩ = false := (hW.frozen (p := ⟨a, 0, none⟩) la).trans fa
  have kb : (w.alloc (Obj.cells #[.int .i64 e, .int .i64 n] 48)).frozen? ⟨b, 0, none⟩ = false := (hW.frozen (p := ⟨b, 0, none⟩) lb).trans fb
  have kc : (w.alloc (Obj.cells #[.int .i64 e, .int .i64 n] 48)).frozen? ⟨c, 0, none⟩ = false := (hW.frozen (p := ⟨c, 0, none⟩) lc).trans fc
  have na : ¬ a = w.heap.size := by omega
  have nb : ¬ b = w.heap.size := by omega
  have nc : ¬ c = w.heap.size := by omega
  have na' : ¬ w.heap.size = a := by omega
  have nb' : ¬ w.heap.size = b := by omega
  clear la lb lc hW
  go_wp2
  go_region
  clear hta ga gb gc ka kb kc na nb nc na' nb'
  cases c₀
  simp_all +zetaDelta [bodyPostS, results, Tryd.results27]
end Go.Proofs.YtbpbiakdigjcnaaDoor
