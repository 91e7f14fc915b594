/-
  EnvPairs, EnvMaps, EnvParse.
-/
import Derived.Test.YtbgoooljkdjjhaaGreatDoorQEnvCalled
import Derived.Test.YtbgoooljkdjjhaaGreatDoorGivKit
import Derived.Maps.OwnSet
import Derived.Maps.Views
import Derived.Deep.RegionHeld3
import Derived.Deep.AppendLies
namespace Go.Proofs.YtbgoooljkdjjhaaGreatDoor
open Go.ChangeShapes Go.WideShapes Go.ChangeAt Go.RowKit Go.Maps

/-! The maps -/
def callK (n : ByteArray) : Lit := .string (calledL n.data.toList)
def firstK (n : ByteArray) : Lit := .string (calledL (upTo 46 n.data.toList))
def nameD (n : ByteArray) : DataW Unit := .lit (.string n.data.toList)
def setD (ns : List ByteArray) : DataW Unit := ns.foldl (fun D n => D.put (callK n) (nameD n)) (.map [])
def firstD (ns : List ByteArray) : DataW Unit := Maps.setOf (.agg []) (ns.map firstK)
theorem setD_snoc (ns : List ByteArray) (n : ByteArray) : setD (ns ++ [n]) = (setD ns).put (callK n) (nameD n) := by simp [setD, List.foldl_append]
theorem firstD_snoc (ns : List ByteArray) (n : ByteArray) : firstD (ns ++ [n]) = (firstD ns).put (firstK n) (.agg []) := by
  unfold firstD
  rw [List.map_append]
  exact Maps.setOf_snoc _ _ _
theorem lit_ne {a b : List UInt8} (h : a ≠ b) : Lit.string a ≠ Lit.string b := fun e => h (by injection e)
/-- All of a list are names. -/
def AllOk (ns : List ByteArray) : Prop := ∀ n ∈ ns, n.data.toList.all okc = true
theorem findN_cons (n : ByteArray) (r : List ByteArray) (nm : List UInt8) : findN (n :: r) nm = if (calledL n.data.toList == nm) = true then some n else findN r nm := by
  unfold findN
  rw [List.find?_cons]
  cases calledL n.data.toList == nm <;> rfl
theorem findN_some {ns : List ByteArray} {nm : List UInt8} {n : ByteArray} (h : findN ns nm = some n) : n ∈ ns ∧ calledL n.data.toList = nm := ⟨List.mem_of_find?_eq_some h, by simpa using List.find?_some h⟩
theorem at_fold (nm : List UInt8) (z : DataW Unit) : ∀ (ns : List ByteArray) (D : DataW Unit), AllOk ns → IsMap D →
    (ns.foldl (fun D n => D.put (callK n) (nameD n)) D).atKey (.string nm) z = (match findN ns nm with | some n => nameD n | none => D.atKey (.string nm) z) ∧
    Maps.has (ns.foldl (fun D n => D.put (callK n) (nameD n)) D) (.string nm) = ((findN ns nm).isSome || Maps.has D (.string nm)) := by
  intro ns
  induction ns with
  | nil => intro D _ _; exact ⟨rfl, by simp [findN]⟩
  | cons n r ih =>
    intro D hok hD
    have hr : AllOk r := fun m hm => hok m (List.mem_cons_of_mem _ hm)
    rw [List.foldl_cons]
    obtain ⟨h1, h2⟩ := ih (D.put (callK n) (nameD n)) hr (hD.put _ _)
    rw [h1, h2, findN_cons]
    by_cases he : calledL n.data.toList = nm
    · rw [if_pos (by rw [he]; simp)]
      have hk : callK n = .string nm := by unfold callK; rw [he]
      rw [hk, Maps.atKey_put_same (k := .string nm) hD trivial, Maps.has_put_same (k := .string nm) hD trivial]
      refine ⟨?_, by simp⟩
      cases hf : findN r nm with
      | none => rfl
      | some m =>
        obtain ⟨hm, hc⟩ := findN_some hf
        have : m.data.toList = n.data.toList := called_inj (hr m hm) (hok n (by simp)) (hc.trans he.symm)
        show nameD m = nameD n
        unfold nameD; rw [this]
    · have hne : (Lit.string nm) ≠ callK n := lit_ne fun e => he e.symm
      rw [if_neg (by simpa using he), Maps.atKey_put_other hne, Maps.has_put_other hne]
      exact ⟨rfl, rfl⟩
theorem setD_at (ns : List ByteArray) (nm : List UInt8) (z : DataW Unit) (h : AllOk ns) : (setD ns).atKey (.string nm) z = (match findN ns nm with | some n => nameD n | none => z) :=
  ((at_fold nm z ns (.map []) h Maps.isMap_empty).1).trans (by cases findN ns nm <;> rfl)
theorem setD_has (ns : List ByteArray) (nm : List UInt8) (h : AllOk ns) : Maps.has (setD ns) (.string nm) = (findN ns nm).isSome :=
  ((at_fold nm (.map []) ns (.map []) h Maps.isMap_empty).2).trans (by rw [show Maps.has (DataW.map (H := Unit) []) (.string nm) = false from rfl, Bool.or_false])
theorem firstD_has (ns : List ByteArray) (nm : List UInt8) : Maps.has (firstD ns) (.string nm) = ns.any fun n => calledL (upTo 46 n.data.toList) == nm := by
  unfold firstD
  rw [Maps.has_setOf _ _ _ (fun x hx => by obtain ⟨y, _, rfl⟩ := List.mem_map.1 hx; trivial), List.any_map]
  rfl

/-! What pairs give -/
/-- What a pair tells. -/
def pairG (ns : List ByteArray) (k : Nat) (p : List UInt8) : List GivV := match findN ns (upTo 61 p) with | some n => [⟨n, mkB (after 61 p), k⟩] | none => []
/-- All pairs from place k on. -/
def envGo (ns : List ByteArray) : Nat → List ByteArray → List GivV → List GivV × Int × Int
  | _, [], acc => (acc, 0, 0)
  | k, p :: r, acc => if pairE ns p.data.toList = 0 then envGo ns (k + 1) r (acc ++ pairG ns k p.data.toList) else ([], pairE ns p.data.toList, k)
def envP (ns : List ByteArray) (ps : List ByteArray) : List GivV × Int × Int := envGo ns 0 ps []
theorem env_drop (ns : List ByteArray) (ps : List ByteArray) (k : Nat) (h : k < ps.length) (acc : List GivV) : envGo ns k (ps.drop k) acc = if pairE ns ps[k].data.toList = 0 then envGo ns (k + 1) (ps.drop (k + 1)) (acc ++ pairG ns k ps[k].data.toList) else ([], pairE ns ps[k].data.toList, k) := by
  rw [List.drop_eq_getElem_cons h, envGo]
theorem pairG_len (ns : List ByteArray) (k : Nat) (p : List UInt8) : (pairG ns k p).length ≤ 1 := by
  unfold pairG
  cases findN ns (upTo 61 p) <;> simp
end Go.Proofs.YtbgoooljkdjjhaaGreatDoor

namespace Go.Proofs.YtbgoooljkdjjhaaGreatDoor
open Go.ChangeShapes Go.WideShapes Go.ChangeAt Go.RowKit Go.Maps

/-! The maps in memory -/
theorem strK : Maps.Keyed Tryz.prog 9 := Maps.string_keyed Tryz.underlying9
theorem zeroU (w : World) : (zeroValue 100).run Tryz.prog w = .ok (.agg #[]) w := by kernel_rfl
def kZ : KeyV := ⟨⟨#[]⟩, 0, ⟨#[]⟩, 0, 0, ⟨#[]⟩⟩
theorem zeroK (w : World) : (zeroValue 57).run Tryz.prog w = .ok (kAgg kZ) w := by kernel_rfl
/-- How a definition in a map reads: its name alone. -/
def keyElem : Value → Option (DataW Unit × List MemPlace)
  | .agg cs => match cs.toList with
    | [.string a, .int .i64 _, .string _, .int .i64 _, .int .i64 _, .string _] => some (nameD a, [])
    | _ => none
  | _ => none
theorem keyElem_mk (k : KeyV) : keyElem (kAgg k) = some (nameD k.name, []) := rfl
theorem keyElem_inv {v : Value} {z : DataW Unit × List MemPlace} (h : keyElem v = some z) : ∃ k : KeyV, v = kAgg k ∧ z = (nameD k.name, []) := by
  unfold keyElem at h
  split at h
  · split at h
    · rename_i cs _ a b c d e f hl
      injection h with h
      refine ⟨⟨a, b, c, d, e, f⟩, ?_, h.symm⟩
      unfold kAgg
      rw [← hl]
    · cases h
  · cases h
theorem nameD_inj {a b : ByteArray} (h : nameD a = nameD b) : a = b := by
  unfold nameD at h
  injection h with h
  injection h with h
  rw [← mkB_self a, h, mkB_self]
/-- Both maps of one call's own. -/
structure MapsAt (w : World) (M F : Nat) (ns : List ByteArray) : Prop where
  m : w.ownsMap Tryz.prog 9 keyElem M ns.length (setD ns)
  f : w.ownsMap Tryz.prog 9 (unitElem (H := Unit)) F ns.length (firstD ns)
theorem map_same {R : Value → Option (DataW Unit × List MemPlace)} {w w' : World} {M n : Nat} {D : DataW Unit} (h : w.ownsMap Tryz.prog 9 R M n D) (hb : w'.heap[M]? = w.heap[M]?) : w'.ownsMap Tryz.prog 9 R M n D := by
  obtain ⟨es, clock, h1, h2⟩ := h
  exact ⟨es, clock, by rw [hb]; exact h1, h2⟩
theorem map_lt {R : Value → Option (DataW Unit × List MemPlace)} {w : World} {M n : Nat} {D : DataW Unit} (h : w.ownsMap Tryz.prog 9 R M n D) : M < w.heap.size := World.ownsMap.lt h
theorem MapsAt.below {w w' : World} {M F : Nat} {ns : List ByteArray} (h : MapsAt w M F ns) (hb : Below w.heap.size w w') : MapsAt w' M F ns :=
  ⟨map_same h.m (hb.block M (map_lt h.m)), map_same h.f (hb.block F (map_lt h.f))⟩
theorem key_of (s : ByteArray) (h : s.size ≤ maxLen) : keyOf Tryz.prog 9 (.string s) = some (.string s.data.toList) := WideMaps.keyOf_string_mk Tryz.underlying9 h
theorem ecut_any (d : UInt8) (s : ByteArray) (w : World) (hs : s.size ≤ 4294967280) (hm : MaxI w) :
    Calls Tryz.prog 44 #[.string s, .string ⟨#[d]⟩] w fun e w' => e = .returned (.tuple #[.string (mkB (upTo d s.data.toList)), .string (mkB (if s.data.toList.contains d then after d s.data.toList else [])), .bool (s.data.toList.contains d)]) ∧ Below w.heap.size w w' := by
  obtain ⟨m, hm⟩ := hm
  refine (Any.strings_Cut Tryz.lays145 s ⟨#[d]⟩ m w (by omega) hm).mono fun e w' ⟨he, n, hw⟩ => ⟨?_, by rw [hw]; exact below_drewN w n⟩
  rw [he]
  show Ending.returned (.tuple #[.string (mkB (Lib.cut s.data.toList [d]).1), .string (mkB (Lib.cut s.data.toList [d]).2.1), .bool (Lib.cut s.data.toList [d]).2.2]) = _
  rw [cut_is]
  by_cases h : s.data.toList.contains d = true
  · rw [if_pos h, if_pos h, h]
  · rw [if_neg h, if_neg h, upTo_none (by simpa using h)]
    simp only [Bool.not_eq_true] at h
    rw [h]
set_option maxHeartbeats 1600000 in
set_option maxRecDepth 100000 in
theorem speaks_any (ns : List ByteArray) (M F n : Nat) (nm : ByteArray) (w : World) (hF : w.ownsMap Tryz.prog 9 (unitElem (H := Unit)) F n (firstD ns)) (hs : nm.size ≤ 4294967280) (hm : MaxI w) :
    Calls Tryz.prog 46 #[.agg #[.map (some M), .map (some F)], .string nm] w fun e w' => e = .returned (.bool (likeN ns nm.data.toList)) ∧ Below w.heap.size w w' := by
  have HCU : Hid (∀ o, Calls Tryz.prog 44 #[.string nm, .string ⟨#[95]⟩] (w.alloc o) fun e w' => e = .returned (.tuple #[.string (mkB (upTo 95 nm.data.toList)), .string (mkB (if nm.data.toList.contains 95 then after 95 nm.data.toList else [])), .bool (nm.data.toList.contains 95)]) ∧ Below (w.alloc o).heap.size (w.alloc o) w') :=
    Lib.hid fun o => ecut_any 95 nm _ hs (hm.below (below_one w o))
  have HB0 : Hid (∀ o, Below w.heap.size w (w.alloc o)) := Lib.hid (below_one w)
  have HF := Lib.hid hF
  have hk := key_of (mkB (upTo 95 nm.data.toList)) (by
    have h1 : (mkB (upTo 95 nm.data.toList)).size = (upTo 95 nm.data.toList).length := by simp [mkB]; rfl
    have h2 : (upTo 95 nm.data.toList).length ≤ nm.data.toList.length := (List.takeWhile_sublist _).length_le
    have h3 : nm.data.toList.length = nm.size := by simp
    unfold maxLen; omega)
  rw [mkB_data] at hk
  have HH := firstD_has ns (upTo 95 nm.data.toList)
  have HL : Hid (likeN ns nm.data.toList = (nm.data.toList.contains 95 && Maps.has (firstD ns) (.string (upTo 95 nm.data.toList)))) := Lib.hid (by rw [HH]; rfl)
  rw [HL.out]
  clear hF hs hm HH HL
  generalize mkB (if nm.data.toList.contains 95 then after 95 nm.data.toList else []) = r at HCU
  generalize mkB (upTo 95 nm.data.toList) = fs at HCU hk
  generalize upTo 95 nm.data.toList = fl at hk ⊢
  cases hj : nm.data.toList.contains 95 with
  | true =>
    rw [hj] at HCU
    rw [Bool.true_and]
    clear hj
    go_enter Tryz.func46, Tryz.ntmps46
    go_wp2_with fail
    refine (HCU.out _).mono ?_
    rintro e w1 ⟨rfl, hb1⟩
    have hc0 : w1.cell? ⟨w.heap.size, 0, none⟩ = some (.map (some M)) := by rw [hb1.cell (p := ⟨w.heap.size, 0, none⟩) (by simp)]; simp
    have hc1 : w1.cell? ⟨w.heap.size, 1, none⟩ = some (.map (some F)) := by rw [hb1.cell (p := ⟨w.heap.size, 1, none⟩) (by simp)]; simp
    have HB1 := Lib.hid ((HB0.out _).trans (hb1.mono (HB0.out _).size))
    have HF1 := Lib.hid (map_same HF.out (HB1.out.block F (map_lt HF.out)))
    clear hb1 HCU
    go_wp2_with (at_lookup; refine wpList_lookup_own_unit _ rfl _ _ 72 rfl 9 100 strK Tryz.underlying72 (zeroU _) F n _ rfl HF1.out _ _ rfl hk ?_)
    go_ret
    exact ⟨rfl, HB1.out.trans ((below_one w1 _).mono HB1.out.size)⟩
  | false =>
    rw [hj] at HCU
    rw [Bool.false_and]
    clear hj
    go_enter Tryz.func46, Tryz.ntmps46
    go_wp2_with fail
    refine (HCU.out _).mono ?_
    rintro e w1 ⟨rfl, hb1⟩
    have hc0 : w1.cell? ⟨w.heap.size, 0, none⟩ = some (.map (some M)) := by rw [hb1.cell (p := ⟨w.heap.size, 0, none⟩) (by simp)]; simp
    have hc1 : w1.cell? ⟨w.heap.size, 1, none⟩ = some (.map (some F)) := by rw [hb1.cell (p := ⟨w.heap.size, 1, none⟩) (by simp)]; simp
    have HB1 := Lib.hid ((HB0.out _).trans (hb1.mono (HB0.out _).size))
    have HF1 := Lib.hid (map_same HF.out (HB1.out.block F (map_lt HF.out)))
    clear hb1 HCU
    go_wp2_with (at_lookup; refine wpList_lookup_own_unit _ rfl _ _ 72 rfl 9 100 strK Tryz.underlying72 (zeroU _) F n _ rfl HF1.out _ _ rfl hk ?_)
    go_ret
    exact ⟨rfl, HB1.out.trans ((below_one w1 _).mono HB1.out.size)⟩
set_option maxRecDepth 100000 in
theorem clone_none (w : World) : Calls Tryz.prog 49 #[.slice none 0 0] w fun e w' => e = .returned (.slice none 0 0) ∧ w = w' := by
  have hq : ∀ (w : World) (a : Option Addr) (n c n' c' : Nat), (binOp .eql 22 (.slice a n c) (.slice none n' c')).run Tryz.prog w = .ok (.bool a.isNone) w := fun w a n c n' c' => Lib.run_eql_slice_nil w _ _ a n c n' c' Tryz.underlying22
  go_enter Tryz.func49, Tryz.ntmps49
  go_wp2
  go_ret
  exact ⟨rfl, rfl⟩
set_option maxRecDepth 100000 in
theorem all_none (S : Nat) (w : World) (hc : w.cell? ⟨S, 0, none⟩ = some (.slice none 0 0)) :
    Calls Tryz.prog 28 #[.pointer (some ⟨S, 0, none⟩)] w fun e w' => e = .returned (.slice none 0 0) ∧ w = w' := by
  have HC := Lib.hid (clone_none w)
  go_enter Tryz.func28, Tryz.ntmps28
  go_wp2_with fail
  refine HC.out.mono ?_
  rintro e w' ⟨rfl, rfl⟩
  go_wp2
  go_ret
  exact ⟨rfl, rfl⟩
/-- A set's definitions, all of them (the empty set too). -/
theorem all_there (xs : List KeyV) (S : Nat) (x : Option Addr) (c : Nat) (w : World) (h : SetAt w S x c xs) (hn : xs.length ≤ 1000000) :
    Calls Tryz.prog 28 #[.pointer (some ⟨S, 0, none⟩)] w fun e w' => ∃ y d, e = .returned (.slice y xs.length d) ∧ Keys w' y xs ∧ Below w.heap.size w w' := by
  by_cases h0 : 0 < xs.length
  · refine (all_any xs S x c w h h0 hn).mono ?_
    rintro e w' ⟨g, c', rfl, h1, h2, h3, h4⟩
    exact ⟨_, _, rfl, h3, h4⟩
  · have e : xs = [] := List.eq_nil_of_length_eq_zero (by omega)
    subst e
    obtain ⟨rfl, rfl⟩ := h.none_ rfl
    refine (all_none S w h.cell).mono ?_
    rintro e w' ⟨rfl, rfl⟩
    exact ⟨none, 0, rfl, Keys.nil_ _ _, Below.refl _ _⟩
theorem mkBsz (l : List UInt8) : (mkB l).size = l.length := by
  show (mkB l).data.size = l.length
  simp [mkB]
/-- A round of namesOf: what stands in memory. -/
structure NmAt (w wr : World) (M F B : Nat) (ns fs : List ByteArray) : Prop where
  m : wr.ownsMap Tryz.prog 9 keyElem M ns.length (setD ns)
  f : wr.ownsMap Tryz.prog 9 (unitElem (H := Unit)) F fs.length (firstD fs)
  res : wr.heap[w.heap.size]? = some (Obj.cells #[.map none, .map none] 74)
  box : wr.heap[B]? = some (Obj.cells #[.map (some M), .map (some F)] 74)
  below : Below w.heap.size w wr
  num : w.heap.size < M ∧ M < F ∧ F < B
theorem NmAt.to {w wr wr' : World} {M F B : Nat} {ns fs : List ByteArray} (h : NmAt w wr M F B ns fs) (hb : Below wr.heap.size wr wr') : NmAt w wr' M F B ns fs :=
  ⟨map_same h.m (hb.block _ (map_lt h.m)), map_same h.f (hb.block _ (map_lt h.f)), (hb.block _ (heap_ltF h.res)).trans h.res, (hb.block _ (heap_ltF h.box)).trans h.box, h.below.trans (hb.mono h.below.size), h.num⟩
theorem NmAt.cells {w wr : World} {M F B : Nat} {ns fs : List ByteArray} (h : NmAt w wr M F B ns fs) : wr.cell? ⟨B, 0, none⟩ = some (.map (some M)) ∧ wr.cell? ⟨B, 1, none⟩ = some (.map (some F)) := by
  refine ⟨?_, ?_⟩
  all_goals rw [cell_of_row wr _ _ _ _ _ h.box]; rfl
theorem NmAt.cellsR {w wr : World} {M F B : Nat} {ns fs : List ByteArray} (h : NmAt w wr M F B ns fs) : wr.cell? ⟨w.heap.size, 0, none⟩ = some (.map none) ∧ wr.cell? ⟨w.heap.size, 1, none⟩ = some (.map none) ∧ ∀ j, wr.frozen? ⟨w.heap.size, j, none⟩ = false := by
  refine ⟨?_, ?_, fun j => by simp [World.frozen?, h.res]⟩
  all_goals rw [cell_of_row wr _ _ _ _ _ h.res]; rfl
theorem but_grown {S : Nat} {w w' : World} (h : w.grownBy w' (some S)) : But S w w' := ⟨h.os, h.tape, h.output, h.size, fun k hk hn => h.block k hk (by simpa using hn)⟩
/-- A definition is laid down by what it is called. -/
theorem NmAt.putM {w wr : World} {M F B : Nat} {ns fs : List ByteArray} (h : NmAt w wr M F B ns fs) (hn : ns.length < maxLen) (k : KeyV) (hk : k.name.size ≤ maxLen) :
    ∃ w', (Instr.mapUpdate 71 (.map (some M)) (.string (mkB (calledL k.name.data.toList))) (kAgg k)).run Tryz.prog wr = .ok () w' ∧ NmAt w w' M F B (ns ++ [k.name]) fs ∧ But M wr w' := by
  have hkey := key_of (mkB (calledL k.name.data.toList)) (by
    rw [mkBsz, called_len]
    have : k.name.data.toList.length = k.name.size := by simp
    omega)
  obtain ⟨w', hrun, hown, hturn⟩ := h.m.store strK Tryz.underlying71 hn hkey (keyElem_mk k)
  have hbut := but_grown hturn.grown
  obtain ⟨n1, n2, n3⟩ := h.num
  refine ⟨w', hrun, ⟨?_, map_same h.f (hbut.2.2.2.2 _ (map_lt h.f) (by omega)), (hbut.2.2.2.2 _ (heap_ltF h.res) (by omega)).trans h.res, (hbut.2.2.2.2 _ (heap_ltF h.box) (by omega)).trans h.box, h.below.trans (hbut.below (by omega) h.below.size), h.num⟩, hbut⟩
  rw [setD_snoc, List.length_append]
  exact hown
theorem NmAt.putF {w wr : World} {M F B : Nat} {ns fs : List ByteArray} (h : NmAt w wr M F B ns fs) (hn : fs.length < maxLen) (n : ByteArray) (hk : n.size ≤ maxLen) :
    ∃ w', (Instr.mapUpdate 72 (.map (some F)) (.string (mkB (calledL (upTo 46 n.data.toList)))) (.agg #[])).run Tryz.prog wr = .ok () w' ∧ NmAt w w' M F B ns (fs ++ [n]) ∧ But F wr w' := by
  have hkey := key_of (mkB (calledL (upTo 46 n.data.toList))) (by
    rw [mkBsz, called_len]
    have h2 : (upTo 46 n.data.toList).length ≤ n.data.toList.length := (List.takeWhile_sublist _).length_le
    have h3 : n.data.toList.length = n.size := by simp
    omega)
  obtain ⟨w', hrun, hown, hturn⟩ := h.f.store strK Tryz.underlying72 hn hkey (unitElem_mk (H := Unit))
  have hbut := but_grown hturn.grown
  obtain ⟨n1, n2, n3⟩ := h.num
  refine ⟨w', hrun, ⟨map_same h.m (hbut.2.2.2.2 _ (map_lt h.m) (by omega)), ?_, (hbut.2.2.2.2 _ (heap_ltF h.res) (by omega)).trans h.res, (hbut.2.2.2.2 _ (heap_ltF h.box) (by omega)).trans h.box, h.below.trans (hbut.below (by omega) h.below.size), h.num⟩, hbut⟩
  rw [firstD_snoc, List.length_append]
  exact hown
theorem NmAt.new (w : World) : NmAt w ((((w.alloc (Obj.cells #[.map none, .map none] 74)).alloc (.map #[] 0)).alloc (.map #[] 0)).alloc (Obj.cells #[.map (some (w.heap.size + 1)), .map (some (w.heap.size + 1 + 1))] 74)) (w.heap.size + 1) (w.heap.size + 1 + 1) (w.heap.size + 1 + 1 + 1) [] [] := by
  have b1 := below_one w (Obj.cells #[.map none, .map none] 74)
  have s1 : (w.alloc (Obj.cells #[.map none, .map none] 74)).heap.size = w.heap.size + 1 := by simp
  have r1 := heap_alloc_new w (Obj.cells #[.map none, .map none] 74)
  generalize w.alloc (Obj.cells #[.map none, .map none] 74) = w1 at b1 s1 r1 ⊢
  have b2 := below_one w1 (.map #[] 0)
  have m1 : (w1.alloc (.map #[] 0)).ownsMap Tryz.prog 9 keyElem w1.heap.size 0 (.map []) := World.ownsMap_made w1 _ _ _
  have s2 : (w1.alloc (.map #[] 0)).heap.size = w.heap.size + 1 + 1 := by simp [s1]
  generalize w1.alloc (.map #[] 0) = w2 at b2 m1 s2 ⊢
  have b3 := below_one w2 (.map #[] 0)
  have m2 : (w2.alloc (.map #[] 0)).ownsMap Tryz.prog 9 (unitElem (H := Unit)) w2.heap.size 0 (.map []) := World.ownsMap_made w2 _ _ _
  have s3 : (w2.alloc (.map #[] 0)).heap.size = w.heap.size + 1 + 1 + 1 := by simp [s2]
  generalize w2.alloc (.map #[] 0) = w3 at b3 m2 s3 ⊢
  have b4 := below_one w3 (Obj.cells #[.map (some (w.heap.size + 1)), .map (some (w.heap.size + 1 + 1))] 74)
  have r4 := heap_alloc_new w3 (Obj.cells #[.map (some (w.heap.size + 1)), .map (some (w.heap.size + 1 + 1))] 74)
  rw [s3] at r4
  rw [s1] at m1
  rw [s2] at m2
  have b12 := b1.trans (b2.mono b1.size)
  have b13 := b12.trans (b3.mono b12.size)
  refine ⟨map_same (map_same m1 (b3.block _ (by omega))) (b4.block _ (by omega)), map_same m2 (b4.block _ (by omega)), ?_, r4, b13.trans (b4.mono b13.size), by omega⟩
  exact (b4.block _ (by omega)).trans ((b3.block _ (by omega)).trans ((b2.block _ (by omega)).trans r1))
theorem cell_blkE {W W' : World} {R : Nat} (h : W'.heap[R]? = W.heap[R]?) (j : Nat) : W'.cell? ⟨R, j, none⟩ = W.cell? ⟨R, j, none⟩ := by unfold World.cell?; rw [h]
theorem keys_but {w w' : World} {S n : Nat} {R : Value → Option (DataW Unit × List MemPlace)} {D : DataW Unit} {y : Option Addr} {xs : List KeyV} (h : Keys w y xs) (hm : w.ownsMap Tryz.prog 9 R S n D) (hb : But S w w') : Keys w' y xs := fun i hi => by
  obtain ⟨b, e, hl, c0, c1, c2, c3, c4, c5⟩ := h i hi
  have hne : b ≠ S := by
    rintro rfl
    obtain ⟨es, c, hm, _⟩ := hm
    simp [World.cell?, hm] at c0
  have hk := hb.2.2.2.2 b hl hne
  exact ⟨b, e, Nat.lt_of_lt_of_le hl hb.2.2.2.1, (cell_blkE hk _).trans c0, (cell_blkE hk _).trans c1, (cell_blkE hk _).trans c2, (cell_blkE hk _).trans c3, (cell_blkE hk _).trans c4, (cell_blkE hk _).trans c5⟩
/-- The end of namesOf: the result's box is written. -/
theorem NmAt.fin {w wr : World} {M F B : Nat} {ns : List ByteArray} (h : NmAt w wr M F B ns ns) :
    ((wr.setCell ⟨w.heap.size, 0, none⟩ (.map (some M))).setCell ⟨w.heap.size, 1, none⟩ (.map (some F))).cell? ⟨w.heap.size, 0, none⟩ = some (.map (some M)) ∧
    ((wr.setCell ⟨w.heap.size, 0, none⟩ (.map (some M))).setCell ⟨w.heap.size, 1, none⟩ (.map (some F))).cell? ⟨w.heap.size, 1, none⟩ = some (.map (some F)) ∧
    MapsAt ((wr.setCell ⟨w.heap.size, 0, none⟩ (.map (some M))).setCell ⟨w.heap.size, 1, none⟩ (.map (some F))) M F ns ∧
    Below w.heap.size w ((wr.setCell ⟨w.heap.size, 0, none⟩ (.map (some M))).setCell ⟨w.heap.size, 1, none⟩ (.map (some F))) := by
  obtain ⟨n1, n2, n3⟩ := h.num
  have h3 : ((wr.setCell ⟨w.heap.size, 0, none⟩ (.map (some M))).setCell ⟨w.heap.size, 1, none⟩ (.map (some F))).heap[w.heap.size]? = some (Obj.cells #[.map (some M), .map (some F)] 74) := by
    simp [World.setCell, Array.getElem?_modify, h.res]
  have ko : ∀ q, q ≠ w.heap.size → ((wr.setCell ⟨w.heap.size, 0, none⟩ (.map (some M))).setCell ⟨w.heap.size, 1, none⟩ (.map (some F))).heap[q]? = wr.heap[q]? := fun q hq => by
    rw [Below.heap_setCell _ ⟨w.heap.size, 1, none⟩ _ _ hq, Below.heap_setCell _ ⟨w.heap.size, 0, none⟩ _ _ hq]
  refine ⟨by rw [cell_of_row _ _ _ _ _ _ h3]; rfl, by rw [cell_of_row _ _ _ _ _ _ h3]; rfl, ⟨map_same h.m (ko _ (by omega)), map_same h.f (ko _ (by omega))⟩, (h.below.setCell (p := ⟨w.heap.size, 0, none⟩) (Nat.le_refl _) _).setCell (p := ⟨w.heap.size, 1, none⟩) (Nat.le_refl _) _⟩
/-- A definition's box, wherever it lies. -/
def KBox (w : World) (q : Nat) (k : KeyV) : Prop := w.heap[q]? = some (Obj.cells (kCells k).toArray 57)
theorem KBox.cells {w : World} {q : Nat} {nm : ByteArray} {kd : Int} {dl : ByteArray} {la lb : Int} {le : ByteArray} (h : KBox w q ⟨nm, kd, dl, la, lb, le⟩) : w.cell? ⟨q, 0, none⟩ = some (.string nm) ∧ w.cell? ⟨q, 1, none⟩ = some (.int .i64 kd) ∧ w.cell? ⟨q, 2, none⟩ = some (.string dl) ∧ w.cell? ⟨q, 3, none⟩ = some (.int .i64 la) ∧ w.cell? ⟨q, 4, none⟩ = some (.int .i64 lb) ∧ w.cell? ⟨q, 5, none⟩ = some (.string le) := by
  refine ⟨?_, ?_, ?_, ?_, ?_, ?_⟩
  all_goals rw [cell_of_row w q _ _ _ _ h]; rfl
set_option maxHeartbeats 3200000 in
set_option maxRecDepth 100000 in
theorem namesOf_any (xs : List KeyV) (S : Nat) (x : Option Addr) (c : Nat) (w : World) (hS : SetAt w S x c xs) (hn : xs.length ≤ 1000) (hok : ∀ k ∈ xs, nameB k.name.data.toList = true) (hm : MaxI w) :
    Calls Tryz.prog 43 #[.pointer (some ⟨S, 0, none⟩)] w fun e w' => ∃ M F, e = .returned (.agg #[.map (some M), .map (some F)]) ∧ MapsAt w' M F (xs.map (·.name)) ∧ Below w.heap.size w w' := by
  have HAL : Hid (∀ W, Below w.heap.size w W → Calls Tryz.prog 28 #[.pointer (some ⟨S, 0, none⟩)] W fun e w' => ∃ y d, e = .returned (.slice y xs.length d) ∧ Keys w' y xs ∧ Below W.heap.size W w') := Lib.hid fun W hb => all_there xs S x c W (hS.below hb) (by omega)
  have HOK := Lib.hid hok
  have HM : Hid (∀ W, Below w.heap.size w W → MaxI W) := Lib.hid fun W hb => hm.below hb
  have HNM := Lib.hid (NmAt.new w)
  obtain ⟨n, hn'⟩ : ∃ n, xs.length = n := ⟨_, rfl⟩
  have HN := Lib.hid hn'
  rw [hn'] at HAL hn
  clear hS hok hm hn'
  have hmm := @run_makeMap Tryz.prog
  have um1 := Tryz.underlying71
  have um2 := Tryz.underlying72
  go_enter Tryz.func43, Tryz.ntmps43
  go_wp2_with fail
  refine (HAL.out _ HNM.out.below).mono ?_
  rintro e w1 ⟨y, d, rfl, hk1, hb1⟩
  have HN1 := Lib.hid (HNM.out.to hb1)
  have HK1 := Lib.hid hk1
  clear hb1 hk1 HNM HAL
  go_wp2
  generalize w.heap.size + 1 + 1 + 1 = B at HN1 ⊢
  generalize w.heap.size + 1 + 1 = F at HN1 ⊢
  generalize w.heap.size + 1 = M at HN1 ⊢
  go_loopw [15] (fun i wr => ∃ t : Nat, i = .int .i64 t ∧ t ≤ n ∧ Hid (NmAt w wr M F B ((xs.map (·.name)).take t) ((xs.map (·.name)).take t)) ∧ Hid (Keys wr y xs)) (fun i _ => n - (intOf i).toNat)
  case atStart => exact ⟨0, rfl, by omega, HN1, HK1⟩
  case round =>
    clear HN1 HK1
    obtain ⟨t, rfl, ht, HNR, HKR⟩ := hrel
    by_cases hlt : t < n
    · have q1 : (0 : Int) ≤ t := by omega
      have q2 : (t : Int) < n := by omega
      have htx : t < xs.length := by rw [HN.out]; exact hlt
      have HTK : Hid ((xs.map (·.name)).take (t + 1) = (xs.map (·.name)).take t ++ [xs[t].name]) := Lib.hid (by rw [List.take_succ_eq_append_getElem (by simpa using htx)]; simp)
      have HTL : Hid (((xs.map (·.name)).take t).length < maxLen) := Lib.hid (by rw [List.length_take]; unfold maxLen; omega)
      have hnm := HOK.out _ (List.getElem_mem htx)
      obtain ⟨b, e, hl, c0, c1, c2, c3, c4, c5⟩ := HKR.out t htx
      subst e
      generalize xs[t] = k at c0 c1 c2 c3 c4 c5 HTK hnm
      have HKB : Hid (∀ W : World, KBox (W.alloc (Obj.cells (kCells k).toArray 57)) W.heap.size k) := Lib.hid fun W => heap_alloc_new W _
      have HPM : Hid (∀ W fs, NmAt w W M F B ((xs.map (·.name)).take t) fs → ∃ w', (Instr.mapUpdate 71 (.map (some M)) (.string (mkB (calledL k.name.data.toList))) (kAgg k)).run Tryz.prog W = .ok () w' ∧ NmAt w w' M F B ((xs.map (·.name)).take (t + 1)) fs ∧ But M W w') := Lib.hid fun W fs h => by
        rw [HTK.out]
        exact h.putM HTL.out k (by have := name_len hnm; have e : k.name.data.toList.length = k.name.size := by simp
                                   unfold maxLen; omega)
      have HPF : Hid (∀ W ns, NmAt w W M F B ns ((xs.map (·.name)).take t) → ∃ w', (Instr.mapUpdate 72 (.map (some F)) (.string (mkB (calledL (upTo 46 k.name.data.toList)))) (.agg #[])).run Tryz.prog W = .ok () w' ∧ NmAt w w' M F B ns ((xs.map (·.name)).take (t + 1)) ∧ But F W w') := Lib.hid fun W ns h => by
        rw [HTK.out]
        exact h.putF HTL.out k.name (by have := name_len hnm; have e : k.name.data.toList.length = k.name.size := by simp
                                        unfold maxLen; omega)
      have hsz : k.name.size ≤ 32 := by have := name_len hnm; have e : k.name.data.toList.length = k.name.size := by simp
                                        omega
      have HCU : Hid (∀ W, Below w.heap.size w W → Calls Tryz.prog 44 #[.string k.name, .string ⟨#[46]⟩] W fun e w' => e = .returned (.tuple #[.string (mkB (upTo 46 k.name.data.toList)), .string (mkB (if k.name.data.toList.contains 46 then after 46 k.name.data.toList else [])), .bool (k.name.data.toList.contains 46)]) ∧ Below W.heap.size W w') := Lib.hid fun W hb => ecut_any 46 k.name W (by omega) (HM.out W hb)
      have HCA : Hid (∀ W, Below w.heap.size w W → Calls Tryz.prog 40 #[.string k.name] W fun e w' => e = .returned (.string (mkB (calledL k.name.data.toList))) ∧ Below W.heap.size W w') := Lib.hid fun W hb => called_any k.name W (by omega) (name_ok hnm) (HM.out W hb)
      have HCB : Hid (∀ W, Below w.heap.size w W → Calls Tryz.prog 40 #[.string (mkB (upTo 46 k.name.data.toList))] W fun e w' => e = .returned (.string (mkB (calledL (upTo 46 k.name.data.toList)))) ∧ Below W.heap.size W w') := Lib.hid fun W hb => by
        have h1 := mkBsz (upTo 46 k.name.data.toList)
        have h2 : (upTo 46 k.name.data.toList).length ≤ k.name.data.toList.length := (List.takeWhile_sublist _).length_le
        have h3 : k.name.data.toList.length = k.name.size := by simp
        have := called_any (mkB (upTo 46 k.name.data.toList)) W (by omega) (by rw [mkB_data]; exact first_ok (name_ok hnm)) (HM.out W hb)
        rw [mkB_data] at this
        exact this
      clear hnm hsz htx HTK HTL
      generalize mkB (upTo 46 k.name.data.toList) = fsn at HCU HCB
      generalize mkB (if k.name.data.toList.contains 46 then after 46 k.name.data.toList else []) = rest at HCU
      generalize k.name.data.toList.contains 46 = has at HCU
      generalize mkB (calledL (upTo 46 k.name.data.toList)) = fsc at HCB HPF
      generalize mkB (calledL k.name.data.toList) = kc at HCA HPM
      obtain ⟨nm, kd, dl, la, lb, le⟩ := k
      simp only at c0 c1 c2 c3 c4 c5 HCU HCA
      unfold kAgg at HPM
      unfold kCells at HKB
      simp only at HPM HKB
      have HNA : Hid (∀ o, NmAt w (wr.alloc o) M F B ((xs.map (·.name)).take t) ((xs.map (·.name)).take t) ∧ Keys (wr.alloc o) (some ⟨b, 0, none⟩) xs) := Lib.hid fun o => ⟨HNR.out.to (below_one wr o), HKR.out.below (below_one wr o)⟩
      have hkb := HKB.out wr
      have HNE : Hid (wr.heap.size ≠ M) := Lib.hid (by have := HNR.out.num; have := heap_ltF HNR.out.box; omega)
      generalize List.take t (xs.map (·.name)) = ts at *
      go_wp2_with fail
      refine (HCU.out _ (HNA.out _).1.below).mono ?_
      rintro e w2 ⟨rfl, hb2⟩
      have HN2 := Lib.hid ((HNA.out _).1.to hb2)
      have HK2 := Lib.hid ((HNA.out _).2.below hb2)
      have hkb2 : KBox w2 wr.heap.size ⟨nm, kd, dl, la, lb, le⟩ := (hb2.block _ (heap_ltF hkb)).trans hkb
      obtain ⟨d0, d1, d2, d3, d4, d5⟩ := hkb2.cells
      obtain ⟨m0, m1⟩ := HN2.out.cells
      have HKB2 := Lib.hid hkb2
      clear hb2 HNA HNR HKR hkb hkb2 HCU
      go_wp2_with fail
      have hdr2 : Below w2.heap.size w2 w2.drew := (Below.refl w2.heap.size w2).drew
      have HBD2 : Hid (Below w.heap.size w w2.drew) := Lib.hid (HN2.out.below.trans (hdr2.mono HN2.out.below.size))
      have HND2 : Hid (NmAt w w2.drew M F B ts ts) := Lib.hid (HN2.out.to hdr2)
      clear hdr2
      go_region_held3 (fun W => W.cell? ⟨B, 0, none⟩ = some (.map (some M)) ∧ W.cell? ⟨wr.heap.size, 0, none⟩ = some (.string nm) ∧ W.cell? ⟨wr.heap.size, 1, none⟩ = some (.int .i64 kd) ∧ W.cell? ⟨wr.heap.size, 2, none⟩ = some (.string dl) ∧ W.cell? ⟨wr.heap.size, 3, none⟩ = some (.int .i64 la) ∧ W.cell? ⟨wr.heap.size, 4, none⟩ = some (.int .i64 lb) ∧ W.cell? ⟨wr.heap.size, 5, none⟩ = some (.string le))
        (first | exact ⟨m0, d0, d1, d2, d3, d4, d5⟩ | exact hs3 | exact hs4)
        (first | (go_at_call 40; (with_reducible refine (HCA.out _ HBD2.out).mono ?_); rintro e w3 ⟨rfl, hb3⟩; have hn3 := HND2.out.to hb3; have hkb3 : KBox w3 wr.heap.size ⟨nm, kd, dl, la, lb, le⟩ := (hb3.block _ (heap_ltF HKB2.out)).trans HKB2.out; have hs3 := And.intro hn3.cells.1 hkb3.cells; obtain ⟨w4, hmu, hn4, hbt4⟩ := HPM.out _ _ hn3; have hs4 := And.intro hn4.cells.1 (KBox.cells ((hbt4.2.2.2.2 _ (heap_ltF hkb3) HNE.out).trans hkb3)); have HN4 := Lib.hid hn4; have HK4 := Lib.hid (keys_but (Keys.below (w := w2.drew) HK2.out hb3) hn3.m hbt4); clear hn3 hn4 hb3 hbt4 hkb3))
      clear hs3 hs4 hmu m0 d0 d1 d2 d3 d4 d5 m1 HCA HPM HND2 HBD2 HK2 HN2 HKB2
      obtain ⟨_, m1⟩ := HN4.out.cells
      have hdr4 : Below w4.heap.size w4 w4.drew := (Below.refl w4.heap.size w4).drew
      have HBD4 : Hid (Below w.heap.size w w4.drew) := Lib.hid (HN4.out.below.trans (hdr4.mono HN4.out.below.size))
      have HND4 := Lib.hid (HN4.out.to hdr4)
      clear hdr4
      go_wp2_with fail
      go_region_held3 (fun W => W.cell? ⟨B, 1, none⟩ = some (.map (some F)))
        (first | exact m1 | exact hs5 | exact hs6)
        (first | (go_at_call 40; (with_reducible refine (HCB.out _ HBD4.out).mono ?_); rintro e w5 ⟨rfl, hb5⟩; have hn5 := HND4.out.to hb5; have hs5 := hn5.cells.2; obtain ⟨w6, hmu6, hn6, hbt6⟩ := HPF.out _ _ hn5; have hs6 := hn6.cells.2; have HN6 := Lib.hid hn6; have HK6 := Lib.hid (keys_but (Keys.below (w := w4.drew) HK4.out hb5) hn5.f hbt6); clear hn5 hn6 hb5 hbt6))
      clear hs5 hs6 hmu6 m1 HCB HPF HND4 HBD4 HK4 HN4
      go_wp2
      go_roundw
      case rel => exact ⟨t + 1, by go_num, by omega, HN6, HK6⟩
      case measure => simp [intOf]; omega
    · have q2 : ¬ (t : Int) < n := by omega
      have hte : t = n := by omega
      subst hte
      have HTE : Hid ((xs.map (·.name)).take t = xs.map (·.name)) := Lib.hid (List.take_of_length_le (by rw [List.length_map, HN.out]; exact Nat.le_refl _))
      rw [HTE.out] at HNR
      obtain ⟨m0, m1⟩ := HNR.out.cells
      obtain ⟨r0, r1, rf⟩ := HNR.out.cellsR
      have f0 := rf 0
      have f1 := rf 1
      obtain ⟨g0, g1, hmp, hbl⟩ := HNR.out.fin
      have HMP := Lib.hid hmp
      have HBL := Lib.hid hbl
      clear rf hmp hbl
      go_wp2
      exact bodyPost_ret (v := .agg #[.map (some M), .map (some F)]) (by simp [results, Tryz.results43, go_sem, g0, g1]) rfl ⟨M, F, rfl, HMP.out, HBL.out⟩
end Go.Proofs.YtbgoooljkdjjhaaGreatDoor

namespace Go.Proofs.YtbgoooljkdjjhaaGreatDoor
open Go.ChangeShapes Go.WideShapes Go.ChangeAt Go.RowKit Go.Maps

/-- A list of settings of a call's own. -/
structure OwnG (w0 w : World) (v : Value) (gs : List GivV) : Prop where
  own : w.ownsRow w0.heap.size 27 3 v gs.length (gFlat gs)
  below : Below w0.heap.size w0 w
theorem OwnG.after {w0 w w' : World} {v : Value} {gs : List GivV} (h : OwnG w0 w v gs) (hb : Below w.heap.size w w') : OwnG w0 w' v gs :=
  ⟨h.own.kept (row := none) ⟨hb.os, hb.tape, hb.output, hb.size, fun k hk _ => hb.block k hk⟩ (by cases hv : v.ownBlock <;> simp), h.below.trans (hb.mono h.below.size)⟩
theorem gFlat_snoc (gs : List GivV) (g : GivV) : gFlat (gs ++ [g]) = gFlat gs ++ gCells g := by
  unfold gFlat
  rw [List.flatMap_append]
  simp
/-- A setting goes to a list of settings. -/
theorem appendG {ops : Array Oper} {rest : List Oper} {o : Oper} {a : Act} {Q : Exit → Act → World → Prop} (hgd : o.guard = none) (s x : Operand)
    (ho : o.op = .call { callee := .builtin .append, args := #[s, x], argTypes := #[23, 23] }) {w0 w : World} {v : Value} {nm tx : ByteArray} {at_ : Int} {gs : List GivV} (hown : OwnG w0 w v gs) (hn : gs.length ≤ 10000000000) (hs : a.eval s = v)
    {c g : Nat} (hx : a.eval x = .slice (some ⟨g, 0, none⟩) 1 c) (hg : g = w.heap.size)
    (h : ∀ y cap w', OwnG w0 w' (.slice (some ⟨y, 0, none⟩) (gs.length + 1) cap) (gs ++ [⟨nm, tx, at_⟩]) → (w.alloc (Obj.cells #[.string nm, .string tx, .int .i64 at_] 27)).grownBy w' v.ownBlock → wpList Tryz.prog ops Q rest (a.put o.dst (.slice (some ⟨y, 0, none⟩) (gs.length + 1) cap)) w') :
    wpList Tryz.prog ops Q (o :: rest) a (w.alloc (Obj.cells #[.string nm, .string tx, .int .i64 at_] 27)) := by
  subst hg
  obtain ⟨i0, hi, hz0, hz1, hz2⟩ := info_parts infoGv
  have hz := hown.below.size
  refine wpList_append_lies _ hgd s x _ ho w0.heap.size 27 i0 _ 3 40 Tryz.underlying23 hi hz0 hz1 hz2 rfl (by decide) v gs.length (gFlat gs) hs (hown.own.alloc _) ⟨w.heap.size, 0, none⟩ 1 c (gCells ⟨nm, tx, at_⟩) hx rfl (World.news_of_block (heap_alloc_new w _)) ?_ (by decide) (by unfold maxLen; omega) (by omega) (by have := (below_one w (Obj.cells #[.string nm, .string tx, .int .i64 at_] 27)).size; omega) _ rfl ?_
  · intro u hu
    unfold gCells at hu
    simp only [List.mem_cons, List.not_mem_nil, or_false] at hu
    rcases hu with rfl | rfl | rfl <;> rfl
  · intro y cap w1 h1 h2 _ _
    refine h y cap w1 ⟨?_, (hown.below.alloc hz _).grown h2 (by simp; omega) (fun k hk => (hown.own.lt k hk).1)⟩ h2
    rw [List.length_append, gFlat_snoc]
    exact h1
/-- A look-up in the map of the definitions. -/
theorem lookup_key (w : World) {ops : Array Oper} {rest : List Oper} {o : Oper} {a : Act} {Q : Exit → Act → World → Prop} (hg : o.guard = none) (m x : Operand) (hop : o.op = Op.lookup 71 m x true)
    {ns : List ByteArray} {M n : Nat} (hm : a.eval m = .map (some M)) (hown : w.ownsMap Tryz.prog 9 keyElem M n (setD ns)) (hok : AllOk ns) (s : ByteArray) (hx : a.eval x = .string s) (hs : s.size ≤ maxLen)
    (hK : ∀ (nm : ByteArray) (kd : Int) (dl : ByteArray) (la lb : Int) (le : ByteArray), (∀ k, findN ns s.data.toList = some k → nm = k) → wpList Tryz.prog ops Q rest (a.put o.dst (.tuple #[.agg #[.string nm, .int .i64 kd, .string dl, .int .i64 la, .int .i64 lb, .string le], .bool (findN ns s.data.toList).isSome])) w) :
    wpList Tryz.prog ops Q (o :: rest) a w :=
  wpList_lookup_own_ok w hg m x _ hop 9 57 strK Tryz.underlying71 keyElem (zeroK w) (nameD kZ.name) [] (keyElem_mk kZ) M n _ hm hown _ (.string s.data.toList) hx (key_of s hs) (fun v ps hv => by
    obtain ⟨k, rfl, hz⟩ := keyElem_inv hv
    rw [setD_has ns _ hok]
    refine hK k.name k.kind k.dflt k.least k.most k.letter fun q hq => ?_
    have := congrArg Prod.fst hz
    rw [setD_at ns _ _ hok, hq] at this
    exact (nameD_inj this).symm)
/-- What a round of Parse holds. -/
structure EpAt (w wr : World) (M F B : Nat) (ns : List ByteArray) (v : Value) (gs : List GivV) : Prop where
  m : wr.ownsMap Tryz.prog 9 keyElem M ns.length (setD ns)
  f : wr.ownsMap Tryz.prog 9 (unitElem (H := Unit)) F ns.length (firstD ns)
  box : wr.heap[B]? = some (Obj.cells #[.map (some M), .map (some F)] 74)
  own : OwnG w wr v gs
theorem EpAt.to {w wr wr' : World} {M F B : Nat} {ns : List ByteArray} {v : Value} {gs : List GivV} (h : EpAt w wr M F B ns v gs) (hb : Below wr.heap.size wr wr') : EpAt w wr' M F B ns v gs :=
  ⟨map_same h.m (hb.block _ (map_lt h.m)), map_same h.f (hb.block _ (map_lt h.f)), (hb.block _ (heap_ltF h.box)).trans h.box, h.own.after hb⟩
theorem EpAt.cells {w wr : World} {M F B : Nat} {ns : List ByteArray} {v : Value} {gs : List GivV} (h : EpAt w wr M F B ns v gs) : wr.cell? ⟨B, 0, none⟩ = some (.map (some M)) ∧ wr.cell? ⟨B, 1, none⟩ = some (.map (some F)) := by
  refine ⟨?_, ?_⟩
  all_goals rw [cell_of_row wr _ _ _ _ _ h.box]; rfl
theorem own_nomap {w : World} {B q size n c : Nat} {e : TypeId} {v : Value} {xs : List Value} {es : Array MapEntry} (h : w.ownsRow B e size v n xs) (hq : w.heap[q]? = some (.map es c)) : v.ownBlock ≠ some q := by
  intro hv
  rcases h.2 with ⟨h1, _⟩ | ⟨g, cap, cur, h1, _, hg, _⟩
  · rw [h1] at hv; cases hv
  · rw [h1] at hv
    have : g = q := by injection hv
    subst this
    rw [hq] at hg
    injection hg with hg
    cases hg
theorem EpAt.push {w wr w' : World} {M F B : Nat} {ns : List ByteArray} {v v' : Value} {gs gs' : List GivV} (h : EpAt w wr M F B ns v gs) (ho : OwnG w w' v' gs') (hg : wr.grownBy w' v.ownBlock) : EpAt w w' M F B ns v' gs' := by
  have hm := h.m
  have hf := h.f
  obtain ⟨es1, k1, m1, _⟩ := h.m
  obtain ⟨es2, k2, m2, _⟩ := h.f
  exact ⟨map_same hm (hg.block _ (map_lt hm) (fun e => own_nomap h.own.own m1 e.symm)), map_same hf (hg.block _ (map_lt hf) (fun e => own_nomap h.own.own m2 e.symm)), (hg.block _ (heap_ltF h.box) (fun e => own_ne h.own.own h.box (by decide) e.symm)).trans h.box, ho⟩
theorem pair_cases (ns : List ByteArray) (k : Nat) (p : List UInt8) :
    (p.contains 61 = false ∧ pairE ns p = 80) ∨ (p.contains 61 = true ∧ (upTo 61 p).isEmpty = true ∧ pairE ns p = 80) ∨
    (p.contains 61 = true ∧ (upTo 61 p).isEmpty = false ∧ ∃ n, findN ns (upTo 61 p) = some n ∧ pairE ns p = 0 ∧ pairG ns k p = [⟨n, mkB (after 61 p), k⟩]) ∨
    (p.contains 61 = true ∧ (upTo 61 p).isEmpty = false ∧ findN ns (upTo 61 p) = none ∧ likeN ns (upTo 61 p) = true ∧ pairE ns p = 81) ∨
    (p.contains 61 = true ∧ (upTo 61 p).isEmpty = false ∧ findN ns (upTo 61 p) = none ∧ likeN ns (upTo 61 p) = false ∧ pairE ns p = 0 ∧ pairG ns k p = []) := by
  unfold pairE pairG
  cases h1 : p.contains 61 with
  | false => exact .inl ⟨rfl, by simp⟩
  | true =>
    cases h2 : (upTo 61 p).isEmpty with
    | true => exact .inr (.inl ⟨rfl, rfl, by simp⟩)
    | false =>
      cases h3 : findN ns (upTo 61 p) with
      | some n => exact .inr (.inr (.inl ⟨rfl, rfl, n, rfl, by simp, rfl⟩))
      | none =>
        cases h4 : likeN ns (upTo 61 p) with
        | true => exact .inr (.inr (.inr (.inl ⟨rfl, rfl, rfl, rfl, by simp⟩)))
        | false => exact .inr (.inr (.inr (.inr ⟨rfl, rfl, rfl, rfl, by simp, rfl⟩)))
/-- What Parse answers. -/
def EnvRes (w : World) (p : List GivV × Int × Int) (e : Ending) (w' : World) : Prop := ∃ v, e = .returned (.tuple #[v, .int .i64 p.2.1, .int .i64 p.2.2]) ∧ OwnG w w' v p.1
theorem envres_err {w wr : World} (en k : Int) (hb : Below w.heap.size w wr) : EnvRes w ([], en, k) (.returned (.tuple #[.slice none 0 0, .int .i64 en, .int .i64 k])) wr := ⟨_, rfl, World.ownsRow_nil _ _ _ _, hb⟩
set_option maxHeartbeats 6400000 in
set_option maxRecDepth 100000 in
theorem eparse_any (xs : List KeyV) (S : Nat) (x0 : Option Addr) (c0 : Nat) (ps : List ByteArray) (px : Option Addr) (pc : Nat) (w : World) (hS : SetAt w S x0 c0 xs) (hn : xs.length ≤ 1000) (hok : ∀ k ∈ xs, nameB k.name.data.toList = true)
    (hp : TxAt w px ps) (hl : ps.length ≤ 2147483647) (hz : ∀ p ∈ ps, p.size ≤ 2147483647) (hm : MaxI w) :
    Calls Tryz.prog 23 #[.pointer (some ⟨S, 0, none⟩), .slice px ps.length pc] w (EnvRes w (envP (xs.map (·.name)) ps)) := by
  have HNO := Lib.hid (namesOf_any xs S x0 c0 w hS hn hok hm)
  have HAO : Hid (AllOk (xs.map (·.name))) := Lib.hid fun n hn => by
    obtain ⟨k, hk, rfl⟩ := List.mem_map.1 hn
    exact name_ok (hok k hk)
  have HNS : Hid (∀ n ∈ xs.map (·.name), n.size ≤ 4294967280) := Lib.hid fun n hn => by
    obtain ⟨k, hk, rfl⟩ := List.mem_map.1 hn
    have := name_len (hok k hk)
    have e : k.name.data.toList.length = k.name.size := by simp
    omega
  have HM : Hid (∀ W, Below w.heap.size w W → MaxI W) := Lib.hid fun W hb => hm.below hb
  have HTX : Hid (∀ W, Below w.heap.size w W → TxAt W px ps) := Lib.hid fun W hb => hp.below hb
  have HZ := Lib.hid hz
  generalize xs.map (·.name) = ns at *
  obtain ⟨R, hR⟩ : ∃ R, envP ns ps = R := ⟨_, rfl⟩
  have HR : Hid (envGo ns 0 (ps.drop 0) [] = R) := Lib.hid hR
  rw [hR]
  obtain ⟨n, hn'⟩ : ∃ n, ps.length = n := ⟨_, rfl⟩
  have HN := Lib.hid hn'
  rw [hn'] at hl ⊢
  clear hS hok hp hz hm hn hR hn'
  go_enter Tryz.func23, Tryz.ntmps23
  go_wp2_with fail
  refine HNO.out.mono ?_
  rintro e w1 ⟨M, F, rfl, hma, hb1⟩
  have HE1 : Hid (EpAt w (w1.alloc (Obj.cells #[.map (some M), .map (some F)] 74)) M F w1.heap.size ns (.slice none 0 0) []) := Lib.hid (by
    have b2 := below_one w1 (Obj.cells #[.map (some M), .map (some F)] 74)
    have h2 := hma.below b2
    exact ⟨h2.m, h2.f, heap_alloc_new _ _, ⟨World.ownsRow_nil _ _ _ _, hb1.trans (b2.mono hb1.size)⟩⟩)
  clear hma hb1 HNO
  have HCL : Hid (∀ W (s : ByteArray), s.size ≤ 4294967280 → Calls Tryz.prog 45 #[.string s] W fun e w' => e = .returned (.string s) ∧ Below W.heap.size W w') := Lib.hid fun W s hs => clone_any s W (by omega)
  go_wp2
  generalize w1.heap.size = B at HE1 ⊢
  go_loopw [8, 22] (fun vv i wr => ∃ (v : Value) (t : Nat) (gs : List GivV), vv = v ∧ i = .int .i64 t ∧ t ≤ n ∧ gs.length ≤ t ∧ Hid (EpAt w wr M F B ns v gs) ∧ Hid (envGo ns t (ps.drop t) gs = R)) (fun _ i _ => n - (intOf i).toNat)
  case atStart => exact ⟨_, 0, [], rfl, rfl, by omega, by simp, HE1, HR⟩
  case round =>
    clear HE1 HR
    obtain ⟨v, t, gs, rfl, rfl, ht, hgl, HE, HR⟩ := hrel
    by_cases hlt : t < n
    · have q1 : (0 : Int) ≤ t := by omega
      have q2 : (t : Int) < n := by omega
      have htx : t < ps.length := by rw [HN.out]; exact hlt
      obtain ⟨bx, off, hxe, hxl, d0⟩ := (HTX.out _ HE.out.own.below) t htx
      have hRd := HR.out
      rw [env_drop ns ps t htx] at hRd
      have hpz := HZ.out _ (List.getElem_mem htx)
      have HCU : Hid (∀ W, Below w.heap.size w W → Calls Tryz.prog 44 #[.string ps[t], .string ⟨#[61]⟩] W fun e w' => e = .returned (.tuple #[.string (mkB (upTo 61 ps[t].data.toList)), .string (mkB (if ps[t].data.toList.contains 61 then after 61 ps[t].data.toList else [])), .bool (ps[t].data.toList.contains 61)]) ∧ Below W.heap.size W w') := Lib.hid fun W hb => ecut_any 61 ps[t] W (by omega) (HM.out W hb)
      have hcase := pair_cases ns t ps[t].data.toList
      have hq1 : (mkB (upTo 61 ps[t].data.toList)).size ≤ 2147483647 := by
        rw [mkBsz]
        have h2 : (upTo 61 ps[t].data.toList).length ≤ ps[t].data.toList.length := (List.takeWhile_sublist _).length_le
        have h3 : ps[t].data.toList.length = ps[t].size := by simp
        omega
      have hq2 : (mkB (after 61 ps[t].data.toList)).size ≤ 2147483647 := by
        rw [mkBsz]
        have h2 : (after 61 ps[t].data.toList).length ≤ ps[t].data.toList.length := by
          unfold after
          rw [List.length_drop]
          have := (List.dropWhile_sublist (· != (61 : UInt8)) (l := ps[t].data.toList)).length_le
          omega
        have h3 : ps[t].data.toList.length = ps[t].size := by simp
        omega
      obtain ⟨nb, hnbe⟩ : ∃ nb, mkB (upTo 61 ps[t].data.toList) = nb := ⟨_, rfl⟩
      have hnb : upTo 61 ps[t].data.toList = nb.data.toList := by rw [← hnbe, mkB_data]
      have hem : nb.data.toList.isEmpty = nb.toList.isEmpty := by rw [Lib.toList_data]
      rw [hnb, hem] at hcase
      rw [hnbe] at HCU hq1
      clear hem hpz HR hnb hnbe
      generalize ps[t] = p at *
      subst hxe
      rcases hcase with ⟨k1, k2⟩ | ⟨k1, k2, k3⟩ | ⟨k1, k2, nn, k3, k4, k5⟩ | ⟨k1, k2, k3, k4, k5⟩ | ⟨k1, k2, k3, k4, k5, k6⟩
      · rw [k2, if_neg (by decide)] at hRd
        have HRR := Lib.hid hRd
        clear k2
        rw [k1] at HCU
        rw [if_neg (by decide)] at HCU
        clear htx hRd
        go_wp2_with fail
        refine (HCU.out _ HE.out.own.below).mono ?_
        rintro e w2 ⟨rfl, hb2⟩
        have HE2 := Lib.hid (HE.out.to hb2)
        obtain ⟨b0, b1⟩ := HE2.out.cells
        clear hb2 HCU HE
        go_wp2_with (at_lookup; refine lookup_key _ rfl _ _ rfl rfl HE2.out.m HAO.out _ rfl (by unfold maxLen; omega) ?_; intro nm kd dl la lb le hnm)
        go_ret3
        rw [← HRR.out]
        exact envres_err _ _ (HE2.out.own.below.trans ((below_one w2 _).mono HE2.out.own.below.size))
      · rw [k3, if_neg (by decide)] at hRd
        have HRR := Lib.hid hRd
        clear k3
        rw [k1] at HCU
        rw [if_pos rfl] at HCU
        clear htx hRd
        go_wp2_with fail
        refine (HCU.out _ HE.out.own.below).mono ?_
        rintro e w2 ⟨rfl, hb2⟩
        have HE2 := Lib.hid (HE.out.to hb2)
        obtain ⟨b0, b1⟩ := HE2.out.cells
        clear hb2 HCU HE
        go_wp2_with (at_lookup; refine lookup_key _ rfl _ _ rfl rfl HE2.out.m HAO.out _ rfl (by unfold maxLen; omega) ?_; intro nm kd dl la lb le hnm)
        go_ret3
        rw [← HRR.out]
        exact envres_err _ _ (HE2.out.own.below.trans ((below_one w2 _).mono HE2.out.own.below.size))
      · rw [k4, if_pos rfl, k5] at hRd
        have HRR := Lib.hid hRd
        have hns := HNS.out nn (findN_some k3).1
        clear k4 k5
        rw [k1] at HCU
        rw [if_pos rfl] at HCU
        generalize mkB (after 61 p.data.toList) = tx at *
        clear htx hRd
        go_wp2_with fail
        refine (HCU.out _ HE.out.own.below).mono ?_
        rintro e w2 ⟨rfl, hb2⟩
        have HE2 := Lib.hid (HE.out.to hb2)
        obtain ⟨b0, b1⟩ := HE2.out.cells
        clear hb2 HCU HE
        go_wp2_with (at_lookup; refine lookup_key _ rfl _ _ rfl rfl HE2.out.m HAO.out _ rfl (by unfold maxLen; omega) ?_; intro nm kd dl la lb le hnm; obtain rfl := hnm nn k3; rw [k3])
        refine (HCL.out _ nm hns).mono ?_
        rintro e w3 ⟨rfl, hb3⟩
        have HE3 := Lib.hid ((HE2.out.to (below_one w2 _)).to hb3)
        clear hb3 HE2 b0 b1
        go_wp2_with fail
        refine (HCL.out _ tx (by omega)).mono ?_
        rintro e w4 ⟨rfl, hb4⟩
        have HE4 := Lib.hid (HE3.out.to hb4)
        clear hb4 HE3
        go_wp2_with (at_builtin; refine appendG rfl _ _ rfl HE4.out.own (by omega) rfl rfl rfl ?_; intro y cap w5 ho hg; have HE5 := Lib.hid ((HE4.out.to (below_one w4 _)).push ho hg); clear ho hg)
        go_roundw
        case rel => exact ⟨_, t + 1, _, rfl, by go_num, by omega, by simp; omega, HE5, HRR⟩
        case measure => simp [intOf]; omega
      · rw [k5, if_neg (by decide)] at hRd
        have HRR := Lib.hid hRd
        have HSP : Hid (∀ W v, EpAt w W M F B ns v gs → Calls Tryz.prog 46 #[.agg #[.map (some M), .map (some F)], .string nb] W fun e w' => e = .returned (.bool true) ∧ Below W.heap.size W w') := Lib.hid fun W v h => by
          have := speaks_any ns M F ns.length nb W h.f (by omega) (HM.out W h.own.below)
          rw [k4] at this
          exact this
        clear k4 k5
        rw [k1] at HCU
        rw [if_pos rfl] at HCU
        clear htx hRd
        go_wp2_with fail
        refine (HCU.out _ HE.out.own.below).mono ?_
        rintro e w2 ⟨rfl, hb2⟩
        have HE2 := Lib.hid (HE.out.to hb2)
        obtain ⟨b0, b1⟩ := HE2.out.cells
        have HE3 := Lib.hid (fun o => HE2.out.to (below_one w2 o))
        have b2 := fun o => (HE3.out o).cells.1
        have b3 := fun o => (HE3.out o).cells.2
        clear hb2 HCU HE
        go_wp2_with (at_lookup; refine lookup_key _ rfl _ _ rfl rfl HE2.out.m HAO.out _ rfl (by unfold maxLen; omega) ?_; intro nm kd dl la lb le hnm; rw [k3])
        refine (HSP.out _ _ (HE3.out _)).mono ?_
        rintro e w3 ⟨rfl, hb3⟩
        have HE4 := Lib.hid ((HE3.out _).to hb3)
        clear hb3 HE3 HE2
        go_wp2
        go_ret3
        rw [← HRR.out]
        exact envres_err _ _ HE4.out.own.below
      · rw [k5, if_pos rfl, k6, List.append_nil] at hRd
        have HRR := Lib.hid hRd
        have HSP : Hid (∀ W v, EpAt w W M F B ns v gs → Calls Tryz.prog 46 #[.agg #[.map (some M), .map (some F)], .string nb] W fun e w' => e = .returned (.bool false) ∧ Below W.heap.size W w') := Lib.hid fun W v h => by
          have := speaks_any ns M F ns.length nb W h.f (by omega) (HM.out W h.own.below)
          rw [k4] at this
          exact this
        clear k4 k5 k6
        rw [k1] at HCU
        rw [if_pos rfl] at HCU
        clear htx hRd
        go_wp2_with fail
        refine (HCU.out _ HE.out.own.below).mono ?_
        rintro e w2 ⟨rfl, hb2⟩
        have HE2 := Lib.hid (HE.out.to hb2)
        obtain ⟨b0, b1⟩ := HE2.out.cells
        have HE3 := Lib.hid (fun o => HE2.out.to (below_one w2 o))
        have b2 := fun o => (HE3.out o).cells.1
        have b3 := fun o => (HE3.out o).cells.2
        clear hb2 HCU HE
        go_wp2_with (at_lookup; refine lookup_key _ rfl _ _ rfl rfl HE2.out.m HAO.out _ rfl (by unfold maxLen; omega) ?_; intro nm kd dl la lb le hnm; rw [k3])
        refine (HSP.out _ _ (HE3.out _)).mono ?_
        rintro e w3 ⟨rfl, hb3⟩
        have HE4 := Lib.hid ((HE3.out _).to hb3)
        clear hb3 HE3 HE2
        go_wp2
        go_roundw
        case rel => exact ⟨_, t + 1, gs, rfl, by go_num, by omega, by omega, HE4, HRR⟩
        case measure => simp [intOf]; omega
    · have hte : t = n := by omega
      subst hte
      have q2 : ¬ (t : Int) < t := by omega
      have hRd := HR.out
      rw [List.drop_eq_nil_of_le (by rw [HN.out]; exact Nat.le_refl _), envGo] at hRd
      have HRR := Lib.hid hRd
      clear hRd
      go_wp2
      go_ret3
      rw [← HRR.out]
      exact ⟨_, rfl, HE.out.own⟩
end Go.Proofs.YtbgoooljkdjjhaaGreatDoor
