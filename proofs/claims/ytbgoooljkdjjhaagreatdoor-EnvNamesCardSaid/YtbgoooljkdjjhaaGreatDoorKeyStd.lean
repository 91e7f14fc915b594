/-
  The standard definitions, as plain lists; the walks of the three lists that the program lays.
-/
import Derived.Test.YtbgoooljkdjjhaaGreatDoorKeyAdds
namespace Go.Proofs.YtbgoooljkdjjhaaGreatDoor
open Go.ChangeShapes Go.WideShapes Go.ChangeAt Go.RowKit

def netL : List KeyV := [⟨⟨#[110, 101, 116, 46, 104, 111, 115, 116]⟩, 5, ⟨#[108, 111, 99, 97, 108, 104, 111, 115, 116]⟩, 0, 0, ⟨#[]⟩⟩,
  ⟨⟨#[110, 101, 116, 46, 112, 101, 101, 114, 115]⟩, 6, ⟨#[]⟩, 0, 16, ⟨#[]⟩⟩,
  ⟨⟨#[110, 101, 116, 46, 112, 111, 114, 116]⟩, 2, ⟨#[56, 48, 56, 48]⟩, 1, 65535, ⟨#[112]⟩⟩,
  ⟨⟨#[110, 101, 116, 46, 116, 105, 109, 101, 111, 117, 116]⟩, 4, ⟨#[51, 48, 115]⟩, 1, 3600, ⟨#[]⟩⟩,
  ⟨⟨#[110, 101, 116, 46, 117, 114, 108]⟩, 5, ⟨#[104, 116, 116, 112, 58, 47, 47, 36, 123, 110, 101, 116, 46, 104, 111, 115, 116, 125, 58, 36, 123, 110, 101, 116, 46, 112, 111, 114, 116, 125]⟩, 0, 0, ⟨#[]⟩⟩]
def logL : List KeyV := [⟨⟨#[108, 111, 103, 46, 102, 105, 108, 101]⟩, 5, ⟨#[36, 123, 115, 116, 111, 114, 101, 46, 100, 105, 114, 125, 47, 108, 111, 103]⟩, 0, 0, ⟨#[]⟩⟩,
  ⟨⟨#[108, 111, 103, 46, 107, 101, 101, 112]⟩, 4, ⟨#[55, 100]⟩, 1, 2592000, ⟨#[]⟩⟩,
  ⟨⟨#[108, 111, 103, 46, 108, 101, 118, 101, 108]⟩, 2, ⟨#[50]⟩, 0, 5, ⟨#[118]⟩⟩]
def sbL : List KeyV := [⟨⟨#[115, 116, 111, 114, 101, 46, 98, 108, 111, 99, 107, 115]⟩, 2, ⟨#[54, 52]⟩, 8, 4096, ⟨#[98]⟩⟩,
  ⟨⟨#[115, 116, 111, 114, 101, 46, 99, 97, 99, 104, 101]⟩, 3, ⟨#[52, 109]⟩, 0, 1073741824, ⟨#[99]⟩⟩,
  ⟨⟨#[115, 116, 111, 114, 101, 46, 100, 105, 114]⟩, 5, ⟨#[47, 118, 97, 114, 47, 116, 105, 110, 100, 101, 114]⟩, 0, 0, ⟨#[100]⟩⟩,
  ⟨⟨#[115, 116, 111, 114, 101, 46, 112, 97, 103, 101]⟩, 3, ⟨#[52, 107]⟩, 512, 65536, ⟨#[]⟩⟩,
  ⟨⟨#[98, 111, 111, 116, 46, 100, 114, 121]⟩, 1, ⟨#[102, 97, 108, 115, 101]⟩, 0, 0, ⟨#[110]⟩⟩,
  ⟨⟨#[98, 111, 111, 116, 46, 108, 105, 109, 105, 116]⟩, 2, ⟨#[48]⟩, 0, 1024, ⟨#[]⟩⟩,
  ⟨⟨#[98, 111, 111, 116, 46, 115, 101, 114, 118, 105, 99, 101, 115]⟩, 6, ⟨#[108, 111, 103, 44, 110, 101, 116]⟩, 0, 16, ⟨#[115]⟩⟩,
  ⟨⟨#[98, 111, 111, 116, 46, 119, 111, 114, 107, 101, 114, 115]⟩, 2, ⟨#[48]⟩, 0, 64, ⟨#[119]⟩⟩]
def stdL : List KeyV := [⟨⟨#[98, 111, 111, 116, 46, 100, 114, 121]⟩, 1, ⟨#[102, 97, 108, 115, 101]⟩, 0, 0, ⟨#[110]⟩⟩,
  ⟨⟨#[98, 111, 111, 116, 46, 108, 105, 109, 105, 116]⟩, 2, ⟨#[48]⟩, 0, 1024, ⟨#[]⟩⟩,
  ⟨⟨#[98, 111, 111, 116, 46, 115, 101, 114, 118, 105, 99, 101, 115]⟩, 6, ⟨#[108, 111, 103, 44, 110, 101, 116]⟩, 0, 16, ⟨#[115]⟩⟩,
  ⟨⟨#[98, 111, 111, 116, 46, 119, 111, 114, 107, 101, 114, 115]⟩, 2, ⟨#[48]⟩, 0, 64, ⟨#[119]⟩⟩,
  ⟨⟨#[108, 111, 103, 46, 102, 105, 108, 101]⟩, 5, ⟨#[36, 123, 115, 116, 111, 114, 101, 46, 100, 105, 114, 125, 47, 108, 111, 103]⟩, 0, 0, ⟨#[]⟩⟩,
  ⟨⟨#[108, 111, 103, 46, 107, 101, 101, 112]⟩, 4, ⟨#[55, 100]⟩, 1, 2592000, ⟨#[]⟩⟩,
  ⟨⟨#[108, 111, 103, 46, 108, 101, 118, 101, 108]⟩, 2, ⟨#[50]⟩, 0, 5, ⟨#[118]⟩⟩,
  ⟨⟨#[110, 101, 116, 46, 104, 111, 115, 116]⟩, 5, ⟨#[108, 111, 99, 97, 108, 104, 111, 115, 116]⟩, 0, 0, ⟨#[]⟩⟩,
  ⟨⟨#[110, 101, 116, 46, 112, 101, 101, 114, 115]⟩, 6, ⟨#[]⟩, 0, 16, ⟨#[]⟩⟩,
  ⟨⟨#[110, 101, 116, 46, 112, 111, 114, 116]⟩, 2, ⟨#[56, 48, 56, 48]⟩, 1, 65535, ⟨#[112]⟩⟩,
  ⟨⟨#[110, 101, 116, 46, 116, 105, 109, 101, 111, 117, 116]⟩, 4, ⟨#[51, 48, 115]⟩, 1, 3600, ⟨#[]⟩⟩,
  ⟨⟨#[110, 101, 116, 46, 117, 114, 108]⟩, 5, ⟨#[104, 116, 116, 112, 58, 47, 47, 36, 123, 110, 101, 116, 46, 104, 111, 115, 116, 125, 58, 36, 123, 110, 101, 116, 46, 112, 111, 114, 116, 125]⟩, 0, 0, ⟨#[]⟩⟩,
  ⟨⟨#[115, 116, 111, 114, 101, 46, 98, 108, 111, 99, 107, 115]⟩, 2, ⟨#[54, 52]⟩, 8, 4096, ⟨#[98]⟩⟩,
  ⟨⟨#[115, 116, 111, 114, 101, 46, 99, 97, 99, 104, 101]⟩, 3, ⟨#[52, 109]⟩, 0, 1073741824, ⟨#[99]⟩⟩,
  ⟨⟨#[115, 116, 111, 114, 101, 46, 100, 105, 114]⟩, 5, ⟨#[47, 118, 97, 114, 47, 116, 105, 110, 100, 101, 114]⟩, 0, 0, ⟨#[100]⟩⟩,
  ⟨⟨#[115, 116, 111, 114, 101, 46, 112, 97, 103, 101]⟩, 3, ⟨#[52, 107]⟩, 512, 65536, ⟨#[]⟩⟩]
theorem std_fold : (netL ++ logL ++ sbL).foldl addK [] = stdL := by kernel_rfl
/-- A list that a function lays. -/
def Laid (w : World) (xs : List KeyV) (e : Ending) (w' : World) : Prop := ∃ g, e = .returned (.slice (some ⟨g, 0, none⟩) xs.length xs.length) ∧ Keys w' (some ⟨g, 0, none⟩) xs ∧ w.heap.size ≤ g ∧ Below w.heap.size w w'
theorem keys_flat (w : World) (xs : List KeyV) (t : TypeId) : Keys (w.alloc (Obj.cells (flat xs).toArray t)) (some ⟨w.heap.size, 0, none⟩) xs :=
  Keys.of_block (t := t) (fr := (0, 0)) (heap_alloc_new w _) (fun j v hv => by rw [List.getElem?_toArray]; exact hv)
set_option maxHeartbeats 1600000 in
set_option maxRecDepth 100000 in
theorem netKeys_any (w : World) : Calls Tryz.prog 51 #[] w (Laid w netL) := by
  have HE : Hid (∀ t, Laid w netL (.returned (.slice (some ⟨w.heap.size, 0, none⟩) netL.length netL.length)) (w.alloc (Obj.cells (flat netL).toArray t))) := Lib.hid fun t => ⟨_, rfl, keys_flat w netL t, Nat.le_refl _, below_one w _⟩
  go_enter Tryz.func51, Tryz.ntmps51
  go_wp2
  go_ret
  exact HE.out _
set_option maxHeartbeats 1600000 in
set_option maxRecDepth 100000 in
theorem logKeys_any (w : World) : Calls Tryz.prog 52 #[] w (Laid w logL) := by
  have HE : Hid (∀ t, Laid w logL (.returned (.slice (some ⟨w.heap.size, 0, none⟩) logL.length logL.length)) (w.alloc (Obj.cells (flat logL).toArray t))) := Lib.hid fun t => ⟨_, rfl, keys_flat w logL t, Nat.le_refl _, below_one w _⟩
  go_enter Tryz.func52, Tryz.ntmps52
  go_wp2
  go_ret
  exact HE.out _
set_option maxHeartbeats 1600000 in
set_option maxRecDepth 100000 in
theorem storeAndBootKeys_any (w : World) : Calls Tryz.prog 53 #[] w (Laid w sbL) := by
  have HE : Hid (∀ t, Laid w sbL (.returned (.slice (some ⟨w.heap.size, 0, none⟩) sbL.length sbL.length)) (w.alloc (Obj.cells (flat sbL).toArray t))) := Lib.hid fun t => ⟨_, rfl, keys_flat w sbL t, Nat.le_refl _, below_one w _⟩
  go_enter Tryz.func53, Tryz.ntmps53
  go_wp2
  go_ret
  exact HE.out _
end Go.Proofs.YtbgoooljkdjjhaaGreatDoor
