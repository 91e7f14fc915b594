/-
  RefsGraph, RefsExp, RefsCut, VMap, RefsCutW, RefsNames, RefsNmW, RefsExW, RefsWay, RefsMark, RefsSpk.
-/
import Derived.Test.YtlcgfdijohgnpaaGreatDoorQRefsMath
import Derived.Test.YtlcgfdijohgnpaaGreatDoorQValueLib
import Derived.Maps.OwnSet
import Derived.Maps.Views
import Derived.Deep.RegionLaw
import Derived.Shelf.SlMaps.Clone
import Derived.Test.YtlcgfdijohgnpaaGreatDoorQValueBox
import Derived.Test.YtlcgfdijohgnpaaGreatDoorQValueWords
import Derived.Test.YtlcgfdijohgnpaaGreatDoorQRefsPieces
import Derived.Test.YtlcgfdijohgnpaaGreatDoorQRowOps
import Derived.Shelf.Strings.BuilderK
import Derived.Test.YtlcgfdijohgnpaaGreatDoorQRefsWork
import Derived.Test.YtlcgfdijohgnpaaGreatDoorQSetPut
namespace Go.Proofs.YtlcgfdijohgnpaaGreatDoor

section
variable {sc : Nat → List Nat} {n : Nat}
end
end Go.Proofs.YtlcgfdijohgnpaaGreatDoor

namespace Go.Proofs.YtlcgfdijohgnpaaGreatDoor

section
variable (P : Nat → List PcB) (pl : List UInt8 → Option Nat)
end
section
variable {P : Nat → List PcB} {pl : List UInt8 → Option Nat} {n : Nat}
end
end Go.Proofs.YtlcgfdijohgnpaaGreatDoor

namespace Go.Proofs.YtlcgfdijohgnpaaGreatDoor

section
variable {s p nm r : List UInt8} {ts : List (List UInt8)} {R : List (List UInt8) × Int}
end
/-! Expansions, where those of what is spoken of are known -/
section
variable {K : List UInt8 → List UInt8 × Bool} {s out p nm r : List UInt8} {ok : Bool} {R : List UInt8 × Bool} {l : List PcB}
end
end Go.Proofs.YtlcgfdijohgnpaaGreatDoor

namespace Go.Proofs.YtlcgfdijohgnpaaGreatDoor
open Go.ChangeShapes Go.WideShapes Go.ChangeAt Go.RowKit Go.Maps

def heldE (v : Value) : Option (DataW Value × List MemPlace) := some (.held v, [])
theorem heldE_is (v : Value) : heldE v = some (.held v, []) := rfl
theorem strKy : Maps.Keyed Tryz.prog 9 := Maps.string_keyed Tryz.underlying9
theorem keyStr (s : ByteArray) (h : s.size ≤ maxLen) : keyOf Tryz.prog 9 (.string s) = some (.string s.data.toList) := WideMaps.keyOf_string_mk Tryz.underlying9 h
def VMap (w : World) (M n : Nat) (f : List UInt8 → Option Value) : Prop := ∃ D, w.ownsMap Tryz.prog 9 heldE M n D ∧ ∀ k, Maps.has D (.string k) = (f k).isSome ∧ ∀ v, f k = some v → ∀ z, D.atKey (.string k) z = .held v
def updF (f : List UInt8 → Option Value) (s : List UInt8) (v : Option Value) : List UInt8 → Option Value := fun k => if k = s then v else f k
section
variable {w w' : World} {M n : Nat} {f : List UInt8 → Option Value}
theorem VMap.lt (h : VMap w M n f) : M < w.heap.size := by
 obtain ⟨D, h1, _⟩ := h
 exact h1.lt
theorem VMap.same (h : VMap w M n f) (hb : w'.heap[M]? = w.heap[M]?) : VMap w' M n f := by
 obtain ⟨D, ⟨es, clock, h1, h2⟩, h3⟩ := h
 exact ⟨D, ⟨es, clock, by rw [hb]; exact h1, h2⟩, h3⟩
theorem VMap.below (h : VMap w M n f) (hb : Below w.heap.size w w') : VMap w' M n f := h.same (hb.block M h.lt)
theorem VMap.made (w : World) : VMap (w.alloc (.map #[] 0)) w.heap.size 0 (fun _ => none) := ⟨_, World.ownsMap_made w _ _ _, fun k => ⟨rfl, fun v h => by cases h⟩⟩
theorem VMap.mono {n' : Nat} (h : VMap w M n f) (hn : n ≤ n') : VMap w M n' f := by
 obtain ⟨D, h1, h3⟩ := h
 exact ⟨D, h1.mono hn, h3⟩
theorem isKey (l : List UInt8) : WideAt.IsKeyLit (.string l) := trivial
theorem lit_ne {a b : List UInt8} (h : a ≠ b) : (Lit.string a) ≠ .string b := fun e => h (by injection e)
theorem VMap.put (h : VMap w M n f) {t e : TypeId} (ht : Tryz.prog.underlying t = some (.map 9 e)) (hn : n < maxLen) (s : ByteArray) (hs : s.size ≤ maxLen) (v : Value) :
  ∃ w', (Instr.mapUpdate t (.map (some M)) (.string s) v).run Tryz.prog w = .ok () w' ∧ VMap w' M (n + 1) (updF f s.data.toList (some v)) ∧ w.grownBy w' (some M) := by
 obtain ⟨D, h1, h3⟩ := h
 obtain ⟨w', hrun, hown, hg⟩ := h1.update strKy ht hn (keyStr s hs) (heldE_is v)
 refine ⟨w', hrun, ⟨_, hown, fun k => ?_⟩, hg⟩
 unfold updF
 by_cases e : k = s.data.toList
 ·subst e
  rw [if_pos rfl]
  refine ⟨Maps.has_put_same (h1.isMap) (isKey _) _, fun x hx z => ?_⟩
  rw [Maps.atKey_put_same h1.isMap (isKey _), Option.some.inj hx]
 ·rw [if_neg e, Maps.has_put_other (lit_ne e)]
  refine ⟨(h3 k).1, fun x hx z => ?_⟩
  rw [Maps.atKey_put_other (lit_ne e)]
  exact (h3 k).2 x hx z
theorem VMap.drop (h : VMap w M n f) {t e : TypeId} (ht : Tryz.prog.underlying t = some (.map 9 e)) (s : ByteArray) (hs : s.size ≤ maxLen) (ty : TypeId) :
  ∃ w', (Builtin.delete_ #[t, 9] ty #[.map (some M), .string s]).run Tryz.prog w = .ok (.tuple #[]) w' ∧ VMap w' M n (updF f s.data.toList none) ∧ w.grownBy w' (some M) := by
 obtain ⟨D, h1, h3⟩ := h
 obtain ⟨w', hrun, hown, hg⟩ := h1.drop strKy ht (keyStr s hs) ty
 refine ⟨w', hrun, ⟨_, hown, fun k => ?_⟩, hg.grown⟩
 unfold updF
 by_cases e : k = s.data.toList
 ·subst e
  rw [if_pos rfl]
  exact ⟨Maps.has_del_same, fun x hx => by cases hx⟩
 ·rw [if_neg e, Maps.has_del_other (lit_ne e)]
  refine ⟨(h3 k).1, fun x hx z => ?_⟩
  rw [Maps.atKey_del_other (lit_ne e)]
  exact (h3 k).2 x hx z
end
/-! At the operation -/
section
variable {w : World} {ops : Array Oper} {rest : List Oper} {o : Oper} {a : Act} {Q : Exit → Act → World → Prop} {M n : Nat} {f : List UInt8 → Option Value}
end
end Go.Proofs.YtlcgfdijohgnpaaGreatDoor

namespace Go.Proofs.YtlcgfdijohgnpaaGreatDoor
open Go.ChangeShapes Go.WideShapes Go.ChangeAt Go.RowKit

end Go.Proofs.YtlcgfdijohgnpaaGreatDoor

namespace Go.Proofs.YtlcgfdijohgnpaaGreatDoor
open Go.ChangeShapes Go.WideShapes Go.ChangeAt Go.RowKit

end Go.Proofs.YtlcgfdijohgnpaaGreatDoor

namespace Go.Proofs.YtlcgfdijohgnpaaGreatDoor
open Go.ChangeShapes Go.WideShapes Go.ChangeAt Go.RowKit

end Go.Proofs.YtlcgfdijohgnpaaGreatDoor

namespace Go.Proofs.YtlcgfdijohgnpaaGreatDoor
open Go.ChangeShapes Go.WideShapes Go.ChangeAt Go.RowKit

end Go.Proofs.YtlcgfdijohgnpaaGreatDoor

namespace Go.Proofs.YtlcgfdijohgnpaaGreatDoor

def firstB (n : Nat) (p : Nat → Bool) : Option Nat := (List.range n).find? p
theorem firstB_no {n : Nat} {p : Nat → Bool} (h : firstB n p = none) : ∀ j, j < n → p j = false := by
 unfold firstB at h
 rw [List.find?_eq_none] at h
 intro j hj
 have := h j (List.mem_range.2 hj)
 simpa using this
section
variable (P : Nat → List PcB) (pl : List UInt8 → Option Nat)
end
section
variable {P : Nat → List PcB} {pl : List UInt8 → Option Nat} {D : Nat → Bool} {Kx : Nat → List UInt8 × Bool} {n : Nat}
end
/-! Looking for what leads to it -/
section
variable (sc : Nat → List Nat)
end
section
variable {sc : Nat → List Nat} {at_ to : Nat} {U U' : Nat → Bool} {l : List Nat}
end
section
variable {P : Nat → List PcB} {pl : List UInt8 → Option Nat} {D : Nat → Bool} {Kx : Nat → List UInt8 × Bool} {n : Nat}
end
end Go.Proofs.YtlcgfdijohgnpaaGreatDoor

namespace Go.Proofs.YtlcgfdijohgnpaaGreatDoor
open Go.ChangeShapes Go.WideShapes Go.ChangeAt Go.RowKit

end Go.Proofs.YtlcgfdijohgnpaaGreatDoor

namespace Go.Proofs.YtlcgfdijohgnpaaGreatDoor
open Go.ChangeShapes Go.WideShapes Go.ChangeAt Go.RowKit

/-! The places of names -/
def Dis (ns : List ByteArray) : Prop := ∀ i j (hi : i < ns.length) (hj : j < ns.length), ns[i] = ns[j] → i = j
theorem place_self {ns : List ByteArray} (hd : Dis ns) {i : Nat} (hi : i < ns.length) : placeN ns ns[i] = (i : Int) := by
 rcases placeN_cases ns ns[i] with h | ⟨j, hj, h1, h2⟩
 ·exfalso
  have key : ∀ (l : List ByteArray) (k : Nat) (s : ByteArray), s ∈ l → placeGo s l k ≠ -1 := by
   intro l
   induction l with
   | nil => intro k s hs; cases hs
   | cons a r ih =>
    intro k s hs
    unfold placeGo
    by_cases e : (a.toList == s.toList) = true
    ·rw [if_pos e]; omega
    ·rw [if_neg e]
     rcases List.mem_cons.1 hs with rfl | hs
     ·simp at e
     ·exact ih _ _ hs
  exact key ns 0 _ (List.getElem_mem hi) h
 ·rw [h1]
  have e : ns[j] = ns[i] := by
   have := eq_of_beq h2
   rw [Lib.toList_data, Lib.toList_data] at this
   rw [← mkB_self ns[j], ← mkB_self ns[i], this]
  have := hd j i hj hi e
  rw [this]
/-! Speakers -/
def spV (t : ByteArray) (x : Option Addr) (n c : Nat) : Value := .agg #[.string t, .slice x n c]
structure Spk where
 T : Nat → List UInt8
 P : Nat → List PcB
 X : Nat → Option Addr
 C : Nat → Nat
def Spk.val (S : Spk) (i : Nat) : Value := spV (mkB (S.T i)) (S.X i) (namesL (S.P i)).length (S.C i)
theorem TxAt.map {w w' : World} {x : Option Addr} {ts : List ByteArray} {M n : Nat} {f : List UInt8 → Option Value} (h : TxAt w x ts) (hm : VMap w M n f) (hg : w.grownBy w' (some M)) : TxAt w' x ts := fun k hk => by
 obtain ⟨b, off, e, hl, hc⟩ := h k hk
 have hne : b ≠ M := fun e2 => by
  subst e2
  obtain ⟨D, ⟨es, clock, hb, _⟩, _⟩ := hm
  unfold World.cell? at hc
  rw [hb] at hc
  cases hc
 exact ⟨b, off, e, Nat.lt_of_lt_of_le hl hg.size, (cell_blkT (hg.block b hl (fun e' => hne (Option.some.inj e'))) (off + k)).trans hc⟩
end Go.Proofs.YtlcgfdijohgnpaaGreatDoor
