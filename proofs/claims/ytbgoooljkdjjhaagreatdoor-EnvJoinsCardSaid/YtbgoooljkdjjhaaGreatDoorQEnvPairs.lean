/-
  EnvPairs.
-/
import Derived.Test.YtbgoooljkdjjhaaGreatDoorQEnvMath
import Derived.Test.YtbgoooljkdjjhaaGreatDoorQGivKit
import Derived.Maps.OwnSet
import Derived.Maps.Views
namespace Go.Proofs.YtbgoooljkdjjhaaGreatDoor
open Go.ChangeShapes Go.WideShapes Go.ChangeAt Go.RowKit Go.Maps

/-! The maps -/
def callK (n : ByteArray) : Lit := .string (calledL n.data.toList)
def firstK (n : ByteArray) : Lit := .string (calledL (upTo 46 n.data.toList))
def nameD (n : ByteArray) : DataW Unit := .lit (.string n.data.toList)
def setD (ns : List ByteArray) : DataW Unit := ns.foldl (fun D n => D.put (callK n) (nameD n)) (.map [])
def firstD (ns : List ByteArray) : DataW Unit := Maps.setOf (.agg []) (ns.map firstK)
theorem setD_snoc (ns : List ByteArray) (n : ByteArray) : setD (ns ++ [n]) = (setD ns).put (callK n) (nameD n) := by simp [setD, List.foldl_append]
theorem firstD_snoc (ns : List ByteArray) (n : ByteArray) : firstD (ns ++ [n]) = (firstD ns).put (firstK n) (.agg []) := by
  unfold firstD
  rw [List.map_append]
  exact Maps.setOf_snoc _ _ _
theorem lit_ne {a b : List UInt8} (h : a ≠ b) : Lit.string a ≠ Lit.string b := fun e => h (by injection e)
/-- All of a list are names. -/
def AllOk (ns : List ByteArray) : Prop := ∀ n ∈ ns, n.data.toList.all okc = true
theorem findN_cons (n : ByteArray) (r : List ByteArray) (nm : List UInt8) : findN (n :: r) nm = if (calledL n.data.toList == nm) = true then some n else findN r nm := by
  unfold findN
  rw [List.find?_cons]
  cases calledL n.data.toList == nm <;> rfl
theorem findN_some {ns : List ByteArray} {nm : List UInt8} {n : ByteArray} (h : findN ns nm = some n) : n ∈ ns ∧ calledL n.data.toList = nm := ⟨List.mem_of_find?_eq_some h, by simpa using List.find?_some h⟩
theorem at_fold (nm : List UInt8) (z : DataW Unit) : ∀ (ns : List ByteArray) (D : DataW Unit), AllOk ns → IsMap D →
    (ns.foldl (fun D n => D.put (callK n) (nameD n)) D).atKey (.string nm) z = (match findN ns nm with | some n => nameD n | none => D.atKey (.string nm) z) ∧
    Maps.has (ns.foldl (fun D n => D.put (callK n) (nameD n)) D) (.string nm) = ((findN ns nm).isSome || Maps.has D (.string nm)) := by
  intro ns
  induction ns with
  | nil => intro D _ _; exact ⟨rfl, by simp [findN]⟩
  | cons n r ih =>
    intro D hok hD
    have hr : AllOk r := fun m hm => hok m (List.mem_cons_of_mem _ hm)
    rw [List.foldl_cons]
    obtain ⟨h1, h2⟩ := ih (D.put (callK n) (nameD n)) hr (hD.put _ _)
    rw [h1, h2, findN_cons]
    by_cases he : calledL n.data.toList = nm
    · rw [if_pos (by rw [he]; simp)]
      have hk : callK n = .string nm := by unfold callK; rw [he]
      rw [hk, Maps.atKey_put_same (k := .string nm) hD trivial, Maps.has_put_same (k := .string nm) hD trivial]
      refine ⟨?_, by simp⟩
      cases hf : findN r nm with
      | none => rfl
      | some m =>
        obtain ⟨hm, hc⟩ := findN_some hf
        have : m.data.toList = n.data.toList := called_inj (hr m hm) (hok n (by simp)) (hc.trans he.symm)
        show nameD m = nameD n
        unfold nameD; rw [this]
    · have hne : (Lit.string nm) ≠ callK n := lit_ne fun e => he e.symm
      rw [if_neg (by simpa using he), Maps.atKey_put_other hne, Maps.has_put_other hne]
      exact ⟨rfl, rfl⟩
theorem setD_at (ns : List ByteArray) (nm : List UInt8) (z : DataW Unit) (h : AllOk ns) : (setD ns).atKey (.string nm) z = (match findN ns nm with | some n => nameD n | none => z) :=
  ((at_fold nm z ns (.map []) h Maps.isMap_empty).1).trans (by cases findN ns nm <;> rfl)
theorem setD_has (ns : List ByteArray) (nm : List UInt8) (h : AllOk ns) : Maps.has (setD ns) (.string nm) = (findN ns nm).isSome :=
  ((at_fold nm (.map []) ns (.map []) h Maps.isMap_empty).2).trans (by rw [show Maps.has (DataW.map (H := Unit) []) (.string nm) = false from rfl, Bool.or_false])
theorem firstD_has (ns : List ByteArray) (nm : List UInt8) : Maps.has (firstD ns) (.string nm) = ns.any fun n => calledL (upTo 46 n.data.toList) == nm := by
  unfold firstD
  rw [Maps.has_setOf _ _ _ (fun x hx => by obtain ⟨y, _, rfl⟩ := List.mem_map.1 hx; trivial), List.any_map]
  rfl

/-! What pairs give -/
/-- What a pair tells. -/
def pairG (ns : List ByteArray) (k : Nat) (p : List UInt8) : List GivV := match findN ns (upTo 61 p) with | some n => [⟨n, mkB (after 61 p), k⟩] | none => []
/-- All pairs from place k on. -/
def envGo (ns : List ByteArray) : Nat → List ByteArray → List GivV → List GivV × Int × Int
  | _, [], acc => (acc, 0, 0)
  | k, p :: r, acc => if pairE ns p.data.toList = 0 then envGo ns (k + 1) r (acc ++ pairG ns k p.data.toList) else ([], pairE ns p.data.toList, k)
def envP (ns : List ByteArray) (ps : List ByteArray) : List GivV × Int × Int := envGo ns 0 ps []
theorem env_drop (ns : List ByteArray) (ps : List ByteArray) (k : Nat) (h : k < ps.length) (acc : List GivV) : envGo ns k (ps.drop k) acc = if pairE ns ps[k].data.toList = 0 then envGo ns (k + 1) (ps.drop (k + 1)) (acc ++ pairG ns k ps[k].data.toList) else ([], pairE ns ps[k].data.toList, k) := by
  rw [List.drop_eq_getElem_cons h, envGo]
theorem pairG_len (ns : List ByteArray) (k : Nat) (p : List UInt8) : (pairG ns k p).length ≤ 1 := by
  unfold pairG
  cases findN ns (upTo 61 p) <;> simp
end Go.Proofs.YtbgoooljkdjjhaaGreatDoor
