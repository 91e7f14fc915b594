/-
  EnvMaps.
-/
import Derived.Test.YtbgoooljkdjjhaaGreatDoorQEnvCalled
import Derived.Test.YtbgoooljkdjjhaaGreatDoorQEnvPairs
import Derived.Deep.RegionHeld3
namespace Go.Proofs.YtbgoooljkdjjhaaGreatDoor
open Go.ChangeShapes Go.WideShapes Go.ChangeAt Go.RowKit Go.Maps

/-! The maps in memory -/
theorem strK : Maps.Keyed Tryz.prog 9 := Maps.string_keyed Tryz.underlying9
theorem zeroU (w : World) : (zeroValue 100).run Tryz.prog w = .ok (.agg #[]) w := by kernel_rfl
def kZ : KeyV := ⟨⟨#[]⟩, 0, ⟨#[]⟩, 0, 0, ⟨#[]⟩⟩
theorem zeroK (w : World) : (zeroValue 57).run Tryz.prog w = .ok (kAgg kZ) w := by kernel_rfl
/-- How a definition in a map reads: its name alone. -/
def keyElem : Value → Option (DataW Unit × List MemPlace)
  | .agg cs => match cs.toList with
    | [.string a, .int .i64 _, .string _, .int .i64 _, .int .i64 _, .string _] => some (nameD a, [])
    | _ => none
  | _ => none
theorem keyElem_mk (k : KeyV) : keyElem (kAgg k) = some (nameD k.name, []) := rfl
theorem keyElem_inv {v : Value} {z : DataW Unit × List MemPlace} (h : keyElem v = some z) : ∃ k : KeyV, v = kAgg k ∧ z = (nameD k.name, []) := by
  unfold keyElem at h
  split at h
  · split at h
    · rename_i cs _ a b c d e f hl
      injection h with h
      refine ⟨⟨a, b, c, d, e, f⟩, ?_, h.symm⟩
      unfold kAgg
      rw [← hl]
    · cases h
  · cases h
theorem nameD_inj {a b : ByteArray} (h : nameD a = nameD b) : a = b := by
  unfold nameD at h
  injection h with h
  injection h with h
  rw [← mkB_self a, h, mkB_self]
/-- Both maps of one call's own. -/
structure MapsAt (w : World) (M F : Nat) (ns : List ByteArray) : Prop where
  m : w.ownsMap Tryz.prog 9 keyElem M ns.length (setD ns)
  f : w.ownsMap Tryz.prog 9 (unitElem (H := Unit)) F ns.length (firstD ns)
theorem map_same {R : Value → Option (DataW Unit × List MemPlace)} {w w' : World} {M n : Nat} {D : DataW Unit} (h : w.ownsMap Tryz.prog 9 R M n D) (hb : w'.heap[M]? = w.heap[M]?) : w'.ownsMap Tryz.prog 9 R M n D := by
  obtain ⟨es, clock, h1, h2⟩ := h
  exact ⟨es, clock, by rw [hb]; exact h1, h2⟩
theorem map_lt {R : Value → Option (DataW Unit × List MemPlace)} {w : World} {M n : Nat} {D : DataW Unit} (h : w.ownsMap Tryz.prog 9 R M n D) : M < w.heap.size := World.ownsMap.lt h
theorem MapsAt.below {w w' : World} {M F : Nat} {ns : List ByteArray} (h : MapsAt w M F ns) (hb : Below w.heap.size w w') : MapsAt w' M F ns :=
  ⟨map_same h.m (hb.block M (map_lt h.m)), map_same h.f (hb.block F (map_lt h.f))⟩
theorem key_of (s : ByteArray) (h : s.size ≤ maxLen) : keyOf Tryz.prog 9 (.string s) = some (.string s.data.toList) := WideMaps.keyOf_string_mk Tryz.underlying9 h
theorem ecut_any (d : UInt8) (s : ByteArray) (w : World) (hs : s.size ≤ 4294967280) (hm : MaxI w) :
    Calls Tryz.prog 44 #[.string s, .string ⟨#[d]⟩] w fun e w' => e = .returned (.tuple #[.string (mkB (upTo d s.data.toList)), .string (mkB (if s.data.toList.contains d then after d s.data.toList else [])), .bool (s.data.toList.contains d)]) ∧ Below w.heap.size w w' := by
  obtain ⟨m, hm⟩ := hm
  refine (Any.strings_Cut Tryz.lays145 s ⟨#[d]⟩ m w (by omega) hm).mono fun e w' ⟨he, n, hw⟩ => ⟨?_, by rw [hw]; exact below_drewN w n⟩
  rw [he]
  show Ending.returned (.tuple #[.string (mkB (Lib.cut s.data.toList [d]).1), .string (mkB (Lib.cut s.data.toList [d]).2.1), .bool (Lib.cut s.data.toList [d]).2.2]) = _
  rw [cut_is]
  by_cases h : s.data.toList.contains d = true
  · rw [if_pos h, if_pos h, h]
  · rw [if_neg h, if_neg h, upTo_none (by simpa using h)]
    simp only [Bool.not_eq_true] at h
    rw [h]
set_option maxHeartbeats 1600000 in
set_option maxRecDepth 100000 in
theorem speaks_any (ns : List ByteArray) (M F n : Nat) (nm : ByteArray) (w : World) (hF : w.ownsMap Tryz.prog 9 (unitElem (H := Unit)) F n (firstD ns)) (hs : nm.size ≤ 4294967280) (hm : MaxI w) :
    Calls Tryz.prog 46 #[.agg #[.map (some M), .map (some F)], .string nm] w fun e w' => e = .returned (.bool (likeN ns nm.data.toList)) ∧ Below w.heap.size w w' := by
  have HCU : Hid (∀ o, Calls Tryz.prog 44 #[.string nm, .string ⟨#[95]⟩] (w.alloc o) fun e w' => e = .returned (.tuple #[.string (mkB (upTo 95 nm.data.toList)), .string (mkB (if nm.data.toList.contains 95 then after 95 nm.data.toList else [])), .bool (nm.data.toList.contains 95)]) ∧ Below (w.alloc o).heap.size (w.alloc o) w') :=
    Lib.hid fun o => ecut_any 95 nm _ hs (hm.below (below_one w o))
  have HB0 : Hid (∀ o, Below w.heap.size w (w.alloc o)) := Lib.hid (below_one w)
  have HF := Lib.hid hF
  have hk := key_of (mkB (upTo 95 nm.data.toList)) (by
    have h1 : (mkB (upTo 95 nm.data.toList)).size = (upTo 95 nm.data.toList).length := by simp [mkB]; rfl
    have h2 : (upTo 95 nm.data.toList).length ≤ nm.data.toList.length := (List.takeWhile_sublist _).length_le
    have h3 : nm.data.toList.length = nm.size := by simp
    unfold maxLen; omega)
  rw [mkB_data] at hk
  have HH := firstD_has ns (upTo 95 nm.data.toList)
  have HL : Hid (likeN ns nm.data.toList = (nm.data.toList.contains 95 && Maps.has (firstD ns) (.string (upTo 95 nm.data.toList)))) := Lib.hid (by rw [HH]; rfl)
  rw [HL.out]
  clear hF hs hm HH HL
  generalize mkB (if nm.data.toList.contains 95 then after 95 nm.data.toList else []) = r at HCU
  generalize mkB (upTo 95 nm.data.toList) = fs at HCU hk
  generalize upTo 95 nm.data.toList = fl at hk ⊢
  cases hj : nm.data.toList.contains 95 with
  | true =>
    rw [hj] at HCU
    rw [Bool.true_and]
    clear hj
    go_enter Tryz.func46, Tryz.ntmps46
    go_wp2_with fail
    refine (HCU.out _).mono ?_
    rintro e w1 ⟨rfl, hb1⟩
    have hc0 : w1.cell? ⟨w.heap.size, 0, none⟩ = some (.map (some M)) := by rw [hb1.cell (p := ⟨w.heap.size, 0, none⟩) (by simp)]; simp
    have hc1 : w1.cell? ⟨w.heap.size, 1, none⟩ = some (.map (some F)) := by rw [hb1.cell (p := ⟨w.heap.size, 1, none⟩) (by simp)]; simp
    have HB1 := Lib.hid ((HB0.out _).trans (hb1.mono (HB0.out _).size))
    have HF1 := Lib.hid (map_same HF.out (HB1.out.block F (map_lt HF.out)))
    clear hb1 HCU
    go_wp2_with (at_lookup; refine wpList_lookup_own_unit _ rfl _ _ 72 rfl 9 100 strK Tryz.underlying72 (zeroU _) F n _ rfl HF1.out _ _ rfl hk ?_)
    go_ret
    exact ⟨rfl, HB1.out.trans ((below_one w1 _).mono HB1.out.size)⟩
  | false =>
    rw [hj] at HCU
    rw [Bool.false_and]
    clear hj
    go_enter Tryz.func46, Tryz.ntmps46
    go_wp2_with fail
    refine (HCU.out _).mono ?_
    rintro e w1 ⟨rfl, hb1⟩
    have hc0 : w1.cell? ⟨w.heap.size, 0, none⟩ = some (.map (some M)) := by rw [hb1.cell (p := ⟨w.heap.size, 0, none⟩) (by simp)]; simp
    have hc1 : w1.cell? ⟨w.heap.size, 1, none⟩ = some (.map (some F)) := by rw [hb1.cell (p := ⟨w.heap.size, 1, none⟩) (by simp)]; simp
    have HB1 := Lib.hid ((HB0.out _).trans (hb1.mono (HB0.out _).size))
    have HF1 := Lib.hid (map_same HF.out (HB1.out.block F (map_lt HF.out)))
    clear hb1 HCU
    go_wp2_with (at_lookup; refine wpList_lookup_own_unit _ rfl _ _ 72 rfl 9 100 strK Tryz.underlying72 (zeroU _) F n _ rfl HF1.out _ _ rfl hk ?_)
    go_ret
    exact ⟨rfl, HB1.out.trans ((below_one w1 _).mono HB1.out.size)⟩
set_option maxRecDepth 100000 in
theorem clone_none (w : World) : Calls Tryz.prog 49 #[.slice none 0 0] w fun e w' => e = .returned (.slice none 0 0) ∧ w = w' := by
  have hq : ∀ (w : World) (a : Option Addr) (n c n' c' : Nat), (binOp .eql 22 (.slice a n c) (.slice none n' c')).run Tryz.prog w = .ok (.bool a.isNone) w := fun w a n c n' c' => Lib.run_eql_slice_nil w _ _ a n c n' c' Tryz.underlying22
  go_enter Tryz.func49, Tryz.ntmps49
  go_wp2
  go_ret
  exact ⟨rfl, rfl⟩
set_option maxRecDepth 100000 in
theorem all_none (S : Nat) (w : World) (hc : w.cell? ⟨S, 0, none⟩ = some (.slice none 0 0)) :
    Calls Tryz.prog 28 #[.pointer (some ⟨S, 0, none⟩)] w fun e w' => e = .returned (.slice none 0 0) ∧ w = w' := by
  have HC := Lib.hid (clone_none w)
  go_enter Tryz.func28, Tryz.ntmps28
  go_wp2_with fail
  refine HC.out.mono ?_
  rintro e w' ⟨rfl, rfl⟩
  go_wp2
  go_ret
  exact ⟨rfl, rfl⟩
/-- A set's definitions, all of them (the empty set too). -/
theorem all_there (xs : List KeyV) (S : Nat) (x : Option Addr) (c : Nat) (w : World) (h : SetAt w S x c xs) (hn : xs.length ≤ 1000000) :
    Calls Tryz.prog 28 #[.pointer (some ⟨S, 0, none⟩)] w fun e w' => ∃ y d, e = .returned (.slice y xs.length d) ∧ Keys w' y xs ∧ Below w.heap.size w w' := by
  by_cases h0 : 0 < xs.length
  · refine (all_any xs S x c w h h0 hn).mono ?_
    rintro e w' ⟨g, c', rfl, h1, h2, h3, h4⟩
    exact ⟨_, _, rfl, h3, h4⟩
  · have e : xs = [] := List.eq_nil_of_length_eq_zero (by omega)
    subst e
    obtain ⟨rfl, rfl⟩ := h.none_ rfl
    refine (all_none S w h.cell).mono ?_
    rintro e w' ⟨rfl, rfl⟩
    exact ⟨none, 0, rfl, Keys.nil_ _ _, Below.refl _ _⟩
theorem mkBsz (l : List UInt8) : (mkB l).size = l.length := by
  show (mkB l).data.size = l.length
  simp [mkB]
/-- A round of namesOf: what stands in memory. -/
structure NmAt (w wr : World) (M F B : Nat) (ns fs : List ByteArray) : Prop where
  m : wr.ownsMap Tryz.prog 9 keyElem M ns.length (setD ns)
  f : wr.ownsMap Tryz.prog 9 (unitElem (H := Unit)) F fs.length (firstD fs)
  res : wr.heap[w.heap.size]? = some (Obj.cells #[.map none, .map none] 74)
  box : wr.heap[B]? = some (Obj.cells #[.map (some M), .map (some F)] 74)
  below : Below w.heap.size w wr
  num : w.heap.size < M ∧ M < F ∧ F < B
theorem NmAt.to {w wr wr' : World} {M F B : Nat} {ns fs : List ByteArray} (h : NmAt w wr M F B ns fs) (hb : Below wr.heap.size wr wr') : NmAt w wr' M F B ns fs :=
  ⟨map_same h.m (hb.block _ (map_lt h.m)), map_same h.f (hb.block _ (map_lt h.f)), (hb.block _ (heap_ltF h.res)).trans h.res, (hb.block _ (heap_ltF h.box)).trans h.box, h.below.trans (hb.mono h.below.size), h.num⟩
theorem NmAt.cells {w wr : World} {M F B : Nat} {ns fs : List ByteArray} (h : NmAt w wr M F B ns fs) : wr.cell? ⟨B, 0, none⟩ = some (.map (some M)) ∧ wr.cell? ⟨B, 1, none⟩ = some (.map (some F)) := by
  refine ⟨?_, ?_⟩
  all_goals rw [cell_of_row wr _ _ _ _ _ h.box]; rfl
theorem NmAt.cellsR {w wr : World} {M F B : Nat} {ns fs : List ByteArray} (h : NmAt w wr M F B ns fs) : wr.cell? ⟨w.heap.size, 0, none⟩ = some (.map none) ∧ wr.cell? ⟨w.heap.size, 1, none⟩ = some (.map none) ∧ ∀ j, wr.frozen? ⟨w.heap.size, j, none⟩ = false := by
  refine ⟨?_, ?_, fun j => by simp [World.frozen?, h.res]⟩
  all_goals rw [cell_of_row wr _ _ _ _ _ h.res]; rfl
theorem but_grown {S : Nat} {w w' : World} (h : w.grownBy w' (some S)) : But S w w' := ⟨h.os, h.tape, h.output, h.size, fun k hk hn => h.block k hk (by simpa using hn)⟩
/-- A definition is laid down by what it is called. -/
theorem NmAt.putM {w wr : World} {M F B : Nat} {ns fs : List ByteArray} (h : NmAt w wr M F B ns fs) (hn : ns.length < maxLen) (k : KeyV) (hk : k.name.size ≤ maxLen) :
    ∃ w', (Instr.mapUpdate 71 (.map (some M)) (.string (mkB (calledL k.name.data.toList))) (kAgg k)).run Tryz.prog wr = .ok () w' ∧ NmAt w w' M F B (ns ++ [k.name]) fs ∧ But M wr w' := by
  have hkey := key_of (mkB (calledL k.name.data.toList)) (by
    rw [mkBsz, called_len]
    have : k.name.data.toList.length = k.name.size := by simp
    omega)
  obtain ⟨w', hrun, hown, hturn⟩ := h.m.store strK Tryz.underlying71 hn hkey (keyElem_mk k)
  have hbut := but_grown hturn.grown
  obtain ⟨n1, n2, n3⟩ := h.num
  refine ⟨w', hrun, ⟨?_, map_same h.f (hbut.2.2.2.2 _ (map_lt h.f) (by omega)), (hbut.2.2.2.2 _ (heap_ltF h.res) (by omega)).trans h.res, (hbut.2.2.2.2 _ (heap_ltF h.box) (by omega)).trans h.box, h.below.trans (hbut.below (by omega) h.below.size), h.num⟩, hbut⟩
  rw [setD_snoc, List.length_append]
  exact hown
theorem NmAt.putF {w wr : World} {M F B : Nat} {ns fs : List ByteArray} (h : NmAt w wr M F B ns fs) (hn : fs.length < maxLen) (n : ByteArray) (hk : n.size ≤ maxLen) :
    ∃ w', (Instr.mapUpdate 72 (.map (some F)) (.string (mkB (calledL (upTo 46 n.data.toList)))) (.agg #[])).run Tryz.prog wr = .ok () w' ∧ NmAt w w' M F B ns (fs ++ [n]) ∧ But F wr w' := by
  have hkey := key_of (mkB (calledL (upTo 46 n.data.toList))) (by
    rw [mkBsz, called_len]
    have h2 : (upTo 46 n.data.toList).length ≤ n.data.toList.length := (List.takeWhile_sublist _).length_le
    have h3 : n.data.toList.length = n.size := by simp
    omega)
  obtain ⟨w', hrun, hown, hturn⟩ := h.f.store strK Tryz.underlying72 hn hkey (unitElem_mk (H := Unit))
  have hbut := but_grown hturn.grown
  obtain ⟨n1, n2, n3⟩ := h.num
  refine ⟨w', hrun, ⟨map_same h.m (hbut.2.2.2.2 _ (map_lt h.m) (by omega)), ?_, (hbut.2.2.2.2 _ (heap_ltF h.res) (by omega)).trans h.res, (hbut.2.2.2.2 _ (heap_ltF h.box) (by omega)).trans h.box, h.below.trans (hbut.below (by omega) h.below.size), h.num⟩, hbut⟩
  rw [firstD_snoc, List.length_append]
  exact hown
theorem NmAt.new (w : World) : NmAt w ((((w.alloc (Obj.cells #[.map none, .map none] 74)).alloc (.map #[] 0)).alloc (.map #[] 0)).alloc (Obj.cells #[.map (some (w.heap.size + 1)), .map (some (w.heap.size + 1 + 1))] 74)) (w.heap.size + 1) (w.heap.size + 1 + 1) (w.heap.size + 1 + 1 + 1) [] [] := by
  have b1 := below_one w (Obj.cells #[.map none, .map none] 74)
  have s1 : (w.alloc (Obj.cells #[.map none, .map none] 74)).heap.size = w.heap.size + 1 := by simp
  have r1 := heap_alloc_new w (Obj.cells #[.map none, .map none] 74)
  generalize w.alloc (Obj.cells #[.map none, .map none] 74) = w1 at b1 s1 r1 ⊢
  have b2 := below_one w1 (.map #[] 0)
  have m1 : (w1.alloc (.map #[] 0)).ownsMap Tryz.prog 9 keyElem w1.heap.size 0 (.map []) := World.ownsMap_made w1 _ _ _
  have s2 : (w1.alloc (.map #[] 0)).heap.size = w.heap.size + 1 + 1 := by simp [s1]
  generalize w1.alloc (.map #[] 0) = w2 at b2 m1 s2 ⊢
  have b3 := below_one w2 (.map #[] 0)
  have m2 : (w2.alloc (.map #[] 0)).ownsMap Tryz.prog 9 (unitElem (H := Unit)) w2.heap.size 0 (.map []) := World.ownsMap_made w2 _ _ _
  have s3 : (w2.alloc (.map #[] 0)).heap.size = w.heap.size + 1 + 1 + 1 := by simp [s2]
  generalize w2.alloc (.map #[] 0) = w3 at b3 m2 s3 ⊢
  have b4 := below_one w3 (Obj.cells #[.map (some (w.heap.size + 1)), .map (some (w.heap.size + 1 + 1))] 74)
  have r4 := heap_alloc_new w3 (Obj.cells #[.map (some (w.heap.size + 1)), .map (some (w.heap.size + 1 + 1))] 74)
  rw [s3] at r4
  rw [s1] at m1
  rw [s2] at m2
  have b12 := b1.trans (b2.mono b1.size)
  have b13 := b12.trans (b3.mono b12.size)
  refine ⟨map_same (map_same m1 (b3.block _ (by omega))) (b4.block _ (by omega)), map_same m2 (b4.block _ (by omega)), ?_, r4, b13.trans (b4.mono b13.size), by omega⟩
  exact (b4.block _ (by omega)).trans ((b3.block _ (by omega)).trans ((b2.block _ (by omega)).trans r1))
theorem cell_blkE {W W' : World} {R : Nat} (h : W'.heap[R]? = W.heap[R]?) (j : Nat) : W'.cell? ⟨R, j, none⟩ = W.cell? ⟨R, j, none⟩ := by unfold World.cell?; rw [h]
theorem keys_but {w w' : World} {S n : Nat} {R : Value → Option (DataW Unit × List MemPlace)} {D : DataW Unit} {y : Option Addr} {xs : List KeyV} (h : Keys w y xs) (hm : w.ownsMap Tryz.prog 9 R S n D) (hb : But S w w') : Keys w' y xs := fun i hi => by
  obtain ⟨b, e, hl, c0, c1, c2, c3, c4, c5⟩ := h i hi
  have hne : b ≠ S := by
    rintro rfl
    obtain ⟨es, c, hm, _⟩ := hm
    simp [World.cell?, hm] at c0
  have hk := hb.2.2.2.2 b hl hne
  exact ⟨b, e, Nat.lt_of_lt_of_le hl hb.2.2.2.1, (cell_blkE hk _).trans c0, (cell_blkE hk _).trans c1, (cell_blkE hk _).trans c2, (cell_blkE hk _).trans c3, (cell_blkE hk _).trans c4, (cell_blkE hk _).trans c5⟩
/-- The end of namesOf: the result's box is written. -/
theorem NmAt.fin {w wr : World} {M F B : Nat} {ns : List ByteArray} (h : NmAt w wr M F B ns ns) :
    ((wr.setCell ⟨w.heap.size, 0, none⟩ (.map (some M))).setCell ⟨w.heap.size, 1, none⟩ (.map (some F))).cell? ⟨w.heap.size, 0, none⟩ = some (.map (some M)) ∧
    ((wr.setCell ⟨w.heap.size, 0, none⟩ (.map (some M))).setCell ⟨w.heap.size, 1, none⟩ (.map (some F))).cell? ⟨w.heap.size, 1, none⟩ = some (.map (some F)) ∧
    MapsAt ((wr.setCell ⟨w.heap.size, 0, none⟩ (.map (some M))).setCell ⟨w.heap.size, 1, none⟩ (.map (some F))) M F ns ∧
    Below w.heap.size w ((wr.setCell ⟨w.heap.size, 0, none⟩ (.map (some M))).setCell ⟨w.heap.size, 1, none⟩ (.map (some F))) := by
  obtain ⟨n1, n2, n3⟩ := h.num
  have h3 : ((wr.setCell ⟨w.heap.size, 0, none⟩ (.map (some M))).setCell ⟨w.heap.size, 1, none⟩ (.map (some F))).heap[w.heap.size]? = some (Obj.cells #[.map (some M), .map (some F)] 74) := by
    simp [World.setCell, Array.getElem?_modify, h.res]
  have ko : ∀ q, q ≠ w.heap.size → ((wr.setCell ⟨w.heap.size, 0, none⟩ (.map (some M))).setCell ⟨w.heap.size, 1, none⟩ (.map (some F))).heap[q]? = wr.heap[q]? := fun q hq => by
    rw [Below.heap_setCell _ ⟨w.heap.size, 1, none⟩ _ _ hq, Below.heap_setCell _ ⟨w.heap.size, 0, none⟩ _ _ hq]
  refine ⟨by rw [cell_of_row _ _ _ _ _ _ h3]; rfl, by rw [cell_of_row _ _ _ _ _ _ h3]; rfl, ⟨map_same h.m (ko _ (by omega)), map_same h.f (ko _ (by omega))⟩, (h.below.setCell (p := ⟨w.heap.size, 0, none⟩) (Nat.le_refl _) _).setCell (p := ⟨w.heap.size, 1, none⟩) (Nat.le_refl _) _⟩
/-- A definition's box, wherever it lies. -/
def KBox (w : World) (q : Nat) (k : KeyV) : Prop := w.heap[q]? = some (Obj.cells (kCells k).toArray 57)
theorem KBox.cells {w : World} {q : Nat} {nm : ByteArray} {kd : Int} {dl : ByteArray} {la lb : Int} {le : ByteArray} (h : KBox w q ⟨nm, kd, dl, la, lb, le⟩) : w.cell? ⟨q, 0, none⟩ = some (.string nm) ∧ w.cell? ⟨q, 1, none⟩ = some (.int .i64 kd) ∧ w.cell? ⟨q, 2, none⟩ = some (.string dl) ∧ w.cell? ⟨q, 3, none⟩ = some (.int .i64 la) ∧ w.cell? ⟨q, 4, none⟩ = some (.int .i64 lb) ∧ w.cell? ⟨q, 5, none⟩ = some (.string le) := by
  refine ⟨?_, ?_, ?_, ?_, ?_, ?_⟩
  all_goals rw [cell_of_row w q _ _ _ _ h]; rfl
set_option maxHeartbeats 3200000 in
set_option maxRecDepth 100000 in
theorem namesOf_any (xs : List KeyV) (S : Nat) (x : Option Addr) (c : Nat) (w : World) (hS : SetAt w S x c xs) (hn : xs.length ≤ 1000) (hok : ∀ k ∈ xs, nameB k.name.data.toList = true) (hm : MaxI w) :
    Calls Tryz.prog 43 #[.pointer (some ⟨S, 0, none⟩)] w fun e w' => ∃ M F, e = .returned (.agg #[.map (some M), .map (some F)]) ∧ MapsAt w' M F (xs.map (·.name)) ∧ Below w.heap.size w w' := by
  have HAL : Hid (∀ W, Below w.heap.size w W → Calls Tryz.prog 28 #[.pointer (some ⟨S, 0, none⟩)] W fun e w' => ∃ y d, e = .returned (.slice y xs.length d) ∧ Keys w' y xs ∧ Below W.heap.size W w') := Lib.hid fun W hb => all_there xs S x c W (hS.below hb) (by omega)
  have HOK := Lib.hid hok
  have HM : Hid (∀ W, Below w.heap.size w W → MaxI W) := Lib.hid fun W hb => hm.below hb
  have HNM := Lib.hid (NmAt.new w)
  obtain ⟨n, hn'⟩ : ∃ n, xs.length = n := ⟨_, rfl⟩
  have HN := Lib.hid hn'
  rw [hn'] at HAL hn
  clear hS hok hm hn'
  have hmm := @run_makeMap Tryz.prog
  have um1 := Tryz.underlying71
  have um2 := Tryz.underlying72
  go_enter Tryz.func43, Tryz.ntmps43
  go_wp2_with fail
  refine (HAL.out _ HNM.out.below).mono ?_
  rintro e w1 ⟨y, d, rfl, hk1, hb1⟩
  have HN1 := Lib.hid (HNM.out.to hb1)
  have HK1 := Lib.hid hk1
  clear hb1 hk1 HNM HAL
  go_wp2
  generalize w.heap.size + 1 + 1 + 1 = B at HN1 ⊢
  generalize w.heap.size + 1 + 1 = F at HN1 ⊢
  generalize w.heap.size + 1 = M at HN1 ⊢
  go_loopw [15] (fun i wr => ∃ t : Nat, i = .int .i64 t ∧ t ≤ n ∧ Hid (NmAt w wr M F B ((xs.map (·.name)).take t) ((xs.map (·.name)).take t)) ∧ Hid (Keys wr y xs)) (fun i _ => n - (intOf i).toNat)
  case atStart => exact ⟨0, rfl, by omega, HN1, HK1⟩
  case round =>
    clear HN1 HK1
    obtain ⟨t, rfl, ht, HNR, HKR⟩ := hrel
    by_cases hlt : t < n
    · have q1 : (0 : Int) ≤ t := by omega
      have q2 : (t : Int) < n := by omega
      have htx : t < xs.length := by rw [HN.out]; exact hlt
      have HTK : Hid ((xs.map (·.name)).take (t + 1) = (xs.map (·.name)).take t ++ [xs[t].name]) := Lib.hid (by rw [List.take_succ_eq_append_getElem (by simpa using htx)]; simp)
      have HTL : Hid (((xs.map (·.name)).take t).length < maxLen) := Lib.hid (by rw [List.length_take]; unfold maxLen; omega)
      have hnm := HOK.out _ (List.getElem_mem htx)
      obtain ⟨b, e, hl, c0, c1, c2, c3, c4, c5⟩ := HKR.out t htx
      subst e
      generalize xs[t] = k at c0 c1 c2 c3 c4 c5 HTK hnm
      have HKB : Hid (∀ W : World, KBox (W.alloc (Obj.cells (kCells k).toArray 57)) W.heap.size k) := Lib.hid fun W => heap_alloc_new W _
      have HPM : Hid (∀ W fs, NmAt w W M F B ((xs.map (·.name)).take t) fs → ∃ w', (Instr.mapUpdate 71 (.map (some M)) (.string (mkB (calledL k.name.data.toList))) (kAgg k)).run Tryz.prog W = .ok () w' ∧ NmAt w w' M F B ((xs.map (·.name)).take (t + 1)) fs ∧ But M W w') := Lib.hid fun W fs h => by
        rw [HTK.out]
        exact h.putM HTL.out k (by have := name_len hnm; have e : k.name.data.toList.length = k.name.size := by simp
                                   unfold maxLen; omega)
      have HPF : Hid (∀ W ns, NmAt w W M F B ns ((xs.map (·.name)).take t) → ∃ w', (Instr.mapUpdate 72 (.map (some F)) (.string (mkB (calledL (upTo 46 k.name.data.toList)))) (.agg #[])).run Tryz.prog W = .ok () w' ∧ NmAt w w' M F B ns ((xs.map (·.name)).take (t + 1)) ∧ But F W w') := Lib.hid fun W ns h => by
        rw [HTK.out]
        exact h.putF HTL.out k.name (by have := name_len hnm; have e : k.name.data.toList.length = k.name.size := by simp
                                        unfold maxLen; omega)
      have hsz : k.name.size ≤ 32 := by have := name_len hnm; have e : k.name.data.toList.length = k.name.size := by simp
                                        omega
      have HCU : Hid (∀ W, Below w.heap.size w W → Calls Tryz.prog 44 #[.string k.name, .string ⟨#[46]⟩] W fun e w' => e = .returned (.tuple #[.string (mkB (upTo 46 k.name.data.toList)), .string (mkB (if k.name.data.toList.contains 46 then after 46 k.name.data.toList else [])), .bool (k.name.data.toList.contains 46)]) ∧ Below W.heap.size W w') := Lib.hid fun W hb => ecut_any 46 k.name W (by omega) (HM.out W hb)
      have HCA : Hid (∀ W, Below w.heap.size w W → Calls Tryz.prog 40 #[.string k.name] W fun e w' => e = .returned (.string (mkB (calledL k.name.data.toList))) ∧ Below W.heap.size W w') := Lib.hid fun W hb => called_any k.name W (by omega) (name_ok hnm) (HM.out W hb)
      have HCB : Hid (∀ W, Below w.heap.size w W → Calls Tryz.prog 40 #[.string (mkB (upTo 46 k.name.data.toList))] W fun e w' => e = .returned (.string (mkB (calledL (upTo 46 k.name.data.toList)))) ∧ Below W.heap.size W w') := Lib.hid fun W hb => by
        have h1 := mkBsz (upTo 46 k.name.data.toList)
        have h2 : (upTo 46 k.name.data.toList).length ≤ k.name.data.toList.length := (List.takeWhile_sublist _).length_le
        have h3 : k.name.data.toList.length = k.name.size := by simp
        have := called_any (mkB (upTo 46 k.name.data.toList)) W (by omega) (by rw [mkB_data]; exact first_ok (name_ok hnm)) (HM.out W hb)
        rw [mkB_data] at this
        exact this
      clear hnm hsz htx HTK HTL
      generalize mkB (upTo 46 k.name.data.toList) = fsn at HCU HCB
      generalize mkB (if k.name.data.toList.contains 46 then after 46 k.name.data.toList else []) = rest at HCU
      generalize k.name.data.toList.contains 46 = has at HCU
      generalize mkB (calledL (upTo 46 k.name.data.toList)) = fsc at HCB HPF
      generalize mkB (calledL k.name.data.toList) = kc at HCA HPM
      obtain ⟨nm, kd, dl, la, lb, le⟩ := k
      simp only at c0 c1 c2 c3 c4 c5 HCU HCA
      unfold kAgg at HPM
      unfold kCells at HKB
      simp only at HPM HKB
      have HNA : Hid (∀ o, NmAt w (wr.alloc o) M F B ((xs.map (·.name)).take t) ((xs.map (·.name)).take t) ∧ Keys (wr.alloc o) (some ⟨b, 0, none⟩) xs) := Lib.hid fun o => ⟨HNR.out.to (below_one wr o), HKR.out.below (below_one wr o)⟩
      have hkb := HKB.out wr
      have HNE : Hid (wr.heap.size ≠ M) := Lib.hid (by have := HNR.out.num; have := heap_ltF HNR.out.box; omega)
      generalize List.take t (xs.map (·.name)) = ts at *
      go_wp2_with fail
      refine (HCU.out _ (HNA.out _).1.below).mono ?_
      rintro e w2 ⟨rfl, hb2⟩
      have HN2 := Lib.hid ((HNA.out _).1.to hb2)
      have HK2 := Lib.hid ((HNA.out _).2.below hb2)
      have hkb2 : KBox w2 wr.heap.size ⟨nm, kd, dl, la, lb, le⟩ := (hb2.block _ (heap_ltF hkb)).trans hkb
      obtain ⟨d0, d1, d2, d3, d4, d5⟩ := hkb2.cells
      obtain ⟨m0, m1⟩ := HN2.out.cells
      have HKB2 := Lib.hid hkb2
      clear hb2 HNA HNR HKR hkb hkb2 HCU
      go_wp2_with fail
      have hdr2 : Below w2.heap.size w2 w2.drew := (Below.refl w2.heap.size w2).drew
      have HBD2 : Hid (Below w.heap.size w w2.drew) := Lib.hid (HN2.out.below.trans (hdr2.mono HN2.out.below.size))
      have HND2 : Hid (NmAt w w2.drew M F B ts ts) := Lib.hid (HN2.out.to hdr2)
      clear hdr2
      go_region_held3 (fun W => W.cell? ⟨B, 0, none⟩ = some (.map (some M)) ∧ W.cell? ⟨wr.heap.size, 0, none⟩ = some (.string nm) ∧ W.cell? ⟨wr.heap.size, 1, none⟩ = some (.int .i64 kd) ∧ W.cell? ⟨wr.heap.size, 2, none⟩ = some (.string dl) ∧ W.cell? ⟨wr.heap.size, 3, none⟩ = some (.int .i64 la) ∧ W.cell? ⟨wr.heap.size, 4, none⟩ = some (.int .i64 lb) ∧ W.cell? ⟨wr.heap.size, 5, none⟩ = some (.string le))
        (first | exact ⟨m0, d0, d1, d2, d3, d4, d5⟩ | exact hs3 | exact hs4)
        (first | (go_at_call 40; (with_reducible refine (HCA.out _ HBD2.out).mono ?_); rintro e w3 ⟨rfl, hb3⟩; have hn3 := HND2.out.to hb3; have hkb3 : KBox w3 wr.heap.size ⟨nm, kd, dl, la, lb, le⟩ := (hb3.block _ (heap_ltF HKB2.out)).trans HKB2.out; have hs3 := And.intro hn3.cells.1 hkb3.cells; obtain ⟨w4, hmu, hn4, hbt4⟩ := HPM.out _ _ hn3; have hs4 := And.intro hn4.cells.1 (KBox.cells ((hbt4.2.2.2.2 _ (heap_ltF hkb3) HNE.out).trans hkb3)); have HN4 := Lib.hid hn4; have HK4 := Lib.hid (keys_but (Keys.below (w := w2.drew) HK2.out hb3) hn3.m hbt4); clear hn3 hn4 hb3 hbt4 hkb3))
      clear hs3 hs4 hmu m0 d0 d1 d2 d3 d4 d5 m1 HCA HPM HND2 HBD2 HK2 HN2 HKB2
      obtain ⟨_, m1⟩ := HN4.out.cells
      have hdr4 : Below w4.heap.size w4 w4.drew := (Below.refl w4.heap.size w4).drew
      have HBD4 : Hid (Below w.heap.size w w4.drew) := Lib.hid (HN4.out.below.trans (hdr4.mono HN4.out.below.size))
      have HND4 := Lib.hid (HN4.out.to hdr4)
      clear hdr4
      go_wp2_with fail
      go_region_held3 (fun W => W.cell? ⟨B, 1, none⟩ = some (.map (some F)))
        (first | exact m1 | exact hs5 | exact hs6)
        (first | (go_at_call 40; (with_reducible refine (HCB.out _ HBD4.out).mono ?_); rintro e w5 ⟨rfl, hb5⟩; have hn5 := HND4.out.to hb5; have hs5 := hn5.cells.2; obtain ⟨w6, hmu6, hn6, hbt6⟩ := HPF.out _ _ hn5; have hs6 := hn6.cells.2; have HN6 := Lib.hid hn6; have HK6 := Lib.hid (keys_but (Keys.below (w := w4.drew) HK4.out hb5) hn5.f hbt6); clear hn5 hn6 hb5 hbt6))
      clear hs5 hs6 hmu6 m1 HCB HPF HND4 HBD4 HK4 HN4
      go_wp2
      go_roundw
      case rel => exact ⟨t + 1, by go_num, by omega, HN6, HK6⟩
      case measure => simp [intOf]; omega
    · have q2 : ¬ (t : Int) < n := by omega
      have hte : t = n := by omega
      subst hte
      have HTE : Hid ((xs.map (·.name)).take t = xs.map (·.name)) := Lib.hid (List.take_of_length_le (by rw [List.length_map, HN.out]; exact Nat.le_refl _))
      rw [HTE.out] at HNR
      obtain ⟨m0, m1⟩ := HNR.out.cells
      obtain ⟨r0, r1, rf⟩ := HNR.out.cellsR
      have f0 := rf 0
      have f1 := rf 1
      obtain ⟨g0, g1, hmp, hbl⟩ := HNR.out.fin
      have HMP := Lib.hid hmp
      have HBL := Lib.hid hbl
      clear rf hmp hbl
      go_wp2
      exact bodyPost_ret (v := .agg #[.map (some M), .map (some F)]) (by simp [results, Tryz.results43, go_sem, g0, g1]) rfl ⟨M, F, rfl, HMP.out, HBL.out⟩
end Go.Proofs.YtbgoooljkdjjhaaGreatDoor
