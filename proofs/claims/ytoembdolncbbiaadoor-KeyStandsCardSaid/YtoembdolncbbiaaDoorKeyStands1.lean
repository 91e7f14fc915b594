/-
  The walk of the law KeyStands.
-/
import Derived.Test.YtoembdolncbbiaaDoorKeyStands0
namespace Go.Proofs.YtoembdolncbbiaaDoor
open Go.ChangeShapes Go.WideShapes Go.ChangeAt Go.RowKit

set_option maxHeartbeats 1600000 in
set_option maxRecDepth 100000 in
theorem refStandard_any (w : World) : Calls Tryd.prog 10 #[] w fun e w' => e = .returned (.pointer (some ⟨w.heap.size + 1, 0, none⟩)) ∧ SetAt w' (w.heap.size + 1) (some ⟨w.heap.size, 0, none⟩) 16 stdL ∧ Below w.heap.size w w' := by
  have HE : Hid (∀ t u, SetAt ((w.alloc (Obj.cells (flat stdL).toArray t)).alloc (Obj.cells #[.slice (some ⟨w.heap.size, 0, none⟩) 16 16] u)) (w.heap.size + 1) (some ⟨w.heap.size, 0, none⟩) 16 stdL ∧ Below w.heap.size w ((w.alloc (Obj.cells (flat stdL).toArray t)).alloc (Obj.cells #[.slice (some ⟨w.heap.size, 0, none⟩) 16 16] u))) := Lib.hid fun t u => by
    have hb := below_one (w.alloc (Obj.cells (flat stdL).toArray t)) (Obj.cells #[.slice (some ⟨w.heap.size, 0, none⟩) 16 16] u)
    refine ⟨⟨?_, (keys_flat w stdL t).below hb, by decide, (fun e => by cases e), ?_⟩, (below_one w _).trans (hb.mono (below_one w _).size)⟩
    · have hz : (w.alloc (Obj.cells (flat stdL).toArray t)).heap.size = w.heap.size + 1 := by simp
      rw [← hz, show stdL.length = 16 from rfl]
      simp
    · have hz : (w.alloc (Obj.cells (flat stdL).toArray t)).heap.size = w.heap.size + 1 := by simp
      rw [← hz]
      simp
  go_enter Tryd.func10, Tryd.ntmps10
  go_wp2
  go_ret
  exact ⟨rfl, HE.out _ _⟩

set_option maxHeartbeats 1600000 in
set_option maxRecDepth 100000 in
theorem keyStands_any (w : World) (hT : Tab w) (hU : Units w) (hM : MaxI w) : Calls Tryd.prog 3 #[] w fun e w' => e = .returned (.bool true) ∧ Below w.heap.size w w' := by
  have HS := Lib.hid (standard_any w hT hU hM)
  clear hT hU hM
  go_enter Tryd.func3, Tryd.ntmps3
  go_wp2_with fail
  refine HS.out.mono ?_
  rintro e w1 ⟨S, rfl, hs1⟩
  have H1 := Lib.hid hs1
  clear hs1 HS
  go_wp2_with fail
  refine (refStandard_any _).mono ?_
  rintro e w2 ⟨rfl, hx2, hb2⟩
  have HX := Lib.hid hx2
  have H2 := Lib.hid (H1.out.below' hb2)
  have c0 : w2.cell? ⟨w1.heap.size + 1, 0, none⟩ = some (.slice (some ⟨w1.heap.size, 0, none⟩) 16 16) := hx2.cell
  have HA : Hid (Calls Tryd.prog 11 #[.pointer (some ⟨S, 0, none⟩), .pointer (some ⟨w1.heap.size + 1, 0, none⟩), .slice (some ⟨w1.heap.size, 0, none⟩) 16 16, .string ⟨#[110, 111, 110, 101]⟩] w2 fun e w' => e = .returned (.bool true) ∧ Below w2.heap.size w2 w') := Lib.hid (by
    obtain ⟨x, c, hs⟩ := H2.out.set
    exact alike_any stdL ⟨#[110, 111, 110, 101]⟩ S (w1.heap.size + 1) x (some ⟨w1.heap.size, 0, none⟩) c 16 w2 hs HX.out H2.out.sorted (by decide) (by decide))
  clear hx2 hb2 HX H1
  go_wp2_with fail
  refine HA.out.mono ?_
  rintro e w3 ⟨rfl, hb3⟩
  have H3 := Lib.hid (H2.out.below.trans (hb3.mono H2.out.below.size))
  clear hb3
  go_wp2
  go_ret
  exact ⟨rfl, H3.out⟩
end Go.Proofs.YtoembdolncbbiaaDoor
