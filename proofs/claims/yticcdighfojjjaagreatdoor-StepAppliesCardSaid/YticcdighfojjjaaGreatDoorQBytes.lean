/-
  Bytes.
-/
import Derived.Test.YticcdighfojjjaaGreatDoorRows
import Derived.WalkKit
import Derived.ProofKit
import Derived.OpenShut
import Derived.WalkLawsBesides
import Derived.Lib.Hide
import Derived.Lib.ConvBytes
import Derived.Laws.IdiomStrings
import Derived.Laws.BytesArg
namespace Go.Proofs.YticcdighfojjjaaGreatDoor
open Go.ChangeShapes Go.WideShapes Go.ChangeAt Go.RowKit

/-- A byte as a value, and as a list of bytes. -/
def b8 (c : UInt8) : Value := .int .u8 (c.toNat : Int)
def str (l : List UInt8) : Value := .string ⟨l.toArray⟩
theorem add_zero_at (g j : Nat) : (⟨g, 0, none⟩ : Addr).add j = ⟨g, j, none⟩ := by unfold Addr.add; split <;> simp_all

/-- Block g holds the bytes l from its head on, none of them frozen. -/
def Row8 (w : World) (g : Nat) (l : List UInt8) : Prop := ∀ j (hj : j < l.length), w.cell? ⟨g, j, none⟩ = some (.int .u8 (l[j].toNat : Int)) ∧ w.frozen? ⟨g, j, none⟩ = false

theorem Row8.set {w : World} {g : Nat} {l : List UInt8} (h : Row8 w g l) (k : Nat) (c : UInt8) : Row8 (w.setCell ⟨g, k, none⟩ (.int .u8 (c.toNat : Int))) g (l.set k c) := by
  intro j hj
  have hj' : j < l.length := by simpa using hj
  obtain ⟨h1, h2⟩ := h j hj'
  refine ⟨?_, by rw [World.frozen?_setCell]; exact h2⟩
  by_cases e : k = j
  · subst e
    rw [World.cell?_setCell_same _ _ _ h1]; simp
  · rw [World.cell?_setCell_other _ _ _ _ (by simp), h1]; simp [e]

theorem toBytes {P : Program} (ts tb te : TypeId) (w : World) (s : ByteArray) {u : TypeDesc} (hs : P.underlying ts = some u) (hb : P.underlying tb = some (.slice te)) (he : P.underlying te = some (.int .u8)) :
    ∃ cap W1, (convert ts tb (.string s)).run P w = .ok (.slice (some ⟨w.heap.size, 0, none⟩) s.size cap) W1 ∧ Row8 W1 w.heap.size s.data.toList ∧ Below w.heap.size w W1 ∧ w.heap.size < W1.heap.size ∧ s.size ≤ cap := by
  refine ⟨_, _, Lib.run_convert_string_bytes w ts tb te s hs hb he, fun j hj => ?_, ⟨rfl, rfl, rfl, ?_, fun k hk => Lib.bytesWorld_at_old w te s k hk⟩, by rw [Lib.bytesWorld_size]; omega, grownCap_ge _ _ _ _⟩
  · have hj' : j < s.size := by simpa using hj
    refine ⟨?_, ?_⟩
    · rw [Lib.bytesWorld_cell w te s j hj']
      simp [List.getD, List.getElem?_eq_getElem hj]
    · simp only [World.frozen?, Lib.bytesWorld_at_new]
      have : s.size ≤ (Lib.bytesCells w te s).size := by simp [Lib.bytesCells]
      simp
      omega
  · rw [Lib.bytesWorld_size]; omega

theorem ofBytes {P : Program} (ts tb te : TypeId) (w : World) (g cap n : Nat) (l : List UInt8) (hn : n = l.length) (hs : P.underlying ts = some .string) (hb : P.underlying tb = some (.slice te)) (he : P.underlying te = some (.int .u8)) (h : Row8 w g l) :
    (convert tb ts (.slice (some ⟨g, 0, none⟩) n cap)).run P w = .ok (.string ⟨l.toArray⟩) w := by
  subst hn
  exact run_convert_bytes_back w tb ts te ⟨g, 0, none⟩ cap l hb he hs fun j hj => by rw [add_zero_at]; exact (h j hj).1

end Go.Proofs.YticcdighfojjjaaGreatDoor
