/-
  VMap, RefsCutW, RefsNames, RefsNmW.
-/
import Derived.Test.YtopghlnoklajkaaGreatDoorQValueLib
import Derived.Maps.OwnSet
import Derived.Maps.Views
import Derived.Deep.RegionLaw
import Derived.Shelf.SlMaps.Clone
import Derived.Test.YtopghlnoklajkaaGreatDoorQValueWords
import Derived.Test.YtopghlnoklajkaaGreatDoorQRowOps
import Derived.Test.YtopghlnoklajkaaGreatDoorQRefsPieces
namespace Go.Proofs.YtopghlnoklajkaaGreatDoor
open Go.ChangeShapes Go.WideShapes Go.ChangeAt Go.RowKit Go.Maps

def heldE (v : Value) : Option (DataW Value × List MemPlace) := some (.held v, [])
theorem heldE_is (v : Value) : heldE v = some (.held v, []) := rfl
theorem strKy : Maps.Keyed Tryz.prog 9 := Maps.string_keyed Tryz.underlying9
theorem keyStr (s : ByteArray) (h : s.size ≤ maxLen) : keyOf Tryz.prog 9 (.string s) = some (.string s.data.toList) := WideMaps.keyOf_string_mk Tryz.underlying9 h
def VMap (w : World) (M n : Nat) (f : List UInt8 → Option Value) : Prop := ∃ D, w.ownsMap Tryz.prog 9 heldE M n D ∧ ∀ k, Maps.has D (.string k) = (f k).isSome ∧ ∀ v, f k = some v → ∀ z, D.atKey (.string k) z = .held v
def updF (f : List UInt8 → Option Value) (s : List UInt8) (v : Option Value) : List UInt8 → Option Value := fun k => if k = s then v else f k
section
variable {w w' : World} {M n : Nat} {f : List UInt8 → Option Value}
theorem VMap.lt (h : VMap w M n f) : M < w.heap.size := by
 obtain ⟨D, h1, _⟩ := h
 exact h1.lt
theorem VMap.same (h : VMap w M n f) (hb : w'.heap[M]? = w.heap[M]?) : VMap w' M n f := by
 obtain ⟨D, ⟨es, clock, h1, h2⟩, h3⟩ := h
 exact ⟨D, ⟨es, clock, by rw [hb]; exact h1, h2⟩, h3⟩
theorem VMap.below (h : VMap w M n f) (hb : Below w.heap.size w w') : VMap w' M n f := h.same (hb.block M h.lt)
theorem VMap.made (w : World) : VMap (w.alloc (.map #[] 0)) w.heap.size 0 (fun _ => none) := ⟨_, World.ownsMap_made w _ _ _, fun k => ⟨rfl, fun v h => by cases h⟩⟩
theorem VMap.ext {g : List UInt8 → Option Value} (h : VMap w M n f) (he : ∀ k, f k = g k) : VMap w M n g := by
 have : f = g := funext he
 rw [← this]; exact h
theorem VMap.mono {n' : Nat} (h : VMap w M n f) (hn : n ≤ n') : VMap w M n' f := by
 obtain ⟨D, h1, h3⟩ := h
 exact ⟨D, h1.mono hn, h3⟩
theorem held_of {D : DataW Value} {s : List UInt8} {z v : Value} {ps : List MemPlace} (h3 : ∀ k, Maps.has D (.string k) = (f k).isSome ∧ ∀ v, f k = some v → ∀ z, D.atKey (.string k) z = .held v) (hv : heldE v = some (D.atKey (.string s) (.held z), ps)) : v = (f s).getD z := by
 obtain ⟨a, b⟩ := h3 s
 have hv2 : DataW.held v = D.atKey (.string s) (.held z) := congrArg Prod.fst (Option.some.inj hv)
 cases hf : f s with
 | none =>
  rw [hf] at a
  rw [Maps.atKey_of_not_has a] at hv2
  exact DataW.held.inj hv2
 | some x =>
  rw [b x hf] at hv2
  exact DataW.held.inj hv2
theorem VMap.look (h : VMap w M n f) {t e : TypeId} (ht : Tryz.prog.underlying t = some (.map 9 e)) {z : Value} (hz : (zeroValue e).run Tryz.prog w = .ok z w) (s : ByteArray) (hs : s.size ≤ maxLen) {u : Value} (hu : (f s.data.toList).getD z = u) :
  (Instr.lookup t (.map (some M)) (.string s) false).run Tryz.prog w = .ok u w := by
 subst hu
 obtain ⟨D, h1, h3⟩ := h
 obtain ⟨v, ps, hrun, hv⟩ := h1.lookup strKy ht hz (heldE_is z) (keyStr s hs)
 have e := held_of h3 hv
 rw [hrun, e]
theorem VMap.look_ok (h : VMap w M n f) {t e : TypeId} (ht : Tryz.prog.underlying t = some (.map 9 e)) {z : Value} (hz : (zeroValue e).run Tryz.prog w = .ok z w) (s : ByteArray) (hs : s.size ≤ maxLen) {u : Value} (hu : (f s.data.toList).getD z = u) {b : Bool} (hb : (f s.data.toList).isSome = b) :
  (Instr.lookup t (.map (some M)) (.string s) true).run Tryz.prog w = .ok (.tuple #[u, .bool b]) w := by
 subst hu hb
 obtain ⟨D, h1, h3⟩ := h
 obtain ⟨v, ps, hrun, hv⟩ := h1.look_ok strKy ht hz (heldE_is z) (keyStr s hs)
 have e := held_of h3 hv
 rw [hrun, e, (h3 s.data.toList).1]
theorem isKey (l : List UInt8) : WideAt.IsKeyLit (.string l) := trivial
theorem lit_ne {a b : List UInt8} (h : a ≠ b) : (Lit.string a) ≠ .string b := fun e => h (by injection e)
theorem VMap.put (h : VMap w M n f) {t e : TypeId} (ht : Tryz.prog.underlying t = some (.map 9 e)) (hn : n < maxLen) (s : ByteArray) (hs : s.size ≤ maxLen) (v : Value) :
  ∃ w', (Instr.mapUpdate t (.map (some M)) (.string s) v).run Tryz.prog w = .ok () w' ∧ VMap w' M (n + 1) (updF f s.data.toList (some v)) ∧ w.grownBy w' (some M) := by
 obtain ⟨D, h1, h3⟩ := h
 obtain ⟨w', hrun, hown, hg⟩ := h1.update strKy ht hn (keyStr s hs) (heldE_is v)
 refine ⟨w', hrun, ⟨_, hown, fun k => ?_⟩, hg⟩
 unfold updF
 by_cases e : k = s.data.toList
 ·subst e
  rw [if_pos rfl]
  refine ⟨Maps.has_put_same (h1.isMap) (isKey _) _, fun x hx z => ?_⟩
  rw [Maps.atKey_put_same h1.isMap (isKey _), Option.some.inj hx]
 ·rw [if_neg e, Maps.has_put_other (lit_ne e)]
  refine ⟨(h3 k).1, fun x hx z => ?_⟩
  rw [Maps.atKey_put_other (lit_ne e)]
  exact (h3 k).2 x hx z
theorem VMap.drop (h : VMap w M n f) {t e : TypeId} (ht : Tryz.prog.underlying t = some (.map 9 e)) (s : ByteArray) (hs : s.size ≤ maxLen) (ty : TypeId) :
  ∃ w', (Builtin.delete_ #[t, 9] ty #[.map (some M), .string s]).run Tryz.prog w = .ok (.tuple #[]) w' ∧ VMap w' M n (updF f s.data.toList none) ∧ w.grownBy w' (some M) := by
 obtain ⟨D, h1, h3⟩ := h
 obtain ⟨w', hrun, hown, hg⟩ := h1.drop strKy ht (keyStr s hs) ty
 refine ⟨w', hrun, ⟨_, hown, fun k => ?_⟩, hg.grown⟩
 unfold updF
 by_cases e : k = s.data.toList
 ·subst e
  rw [if_pos rfl]
  exact ⟨Maps.has_del_same, fun x hx => by cases hx⟩
 ·rw [if_neg e, Maps.has_del_other (lit_ne e)]
  refine ⟨(h3 k).1, fun x hx z => ?_⟩
  rw [Maps.atKey_del_other (lit_ne e)]
  exact (h3 k).2 x hx z
end
/-! At the operation -/
section
variable {w : World} {ops : Array Oper} {rest : List Oper} {o : Oper} {a : Act} {Q : Exit → Act → World → Prop} {M n : Nat} {f : List UInt8 → Option Value}
theorem wpList_look_v (hg : o.guard = none) (m x : Operand) (t e : TypeId) (hop : o.op = Op.lookup t m x false) (ht : Tryz.prog.underlying t = some (.map 9 e)) (z : Value) (hz : (zeroValue e).run Tryz.prog w = .ok z w)
  (hm : a.eval m = .map (some M)) (s : ByteArray) (hx : a.eval x = .string s) (hown : VMap w M n f) (hs : s.size ≤ maxLen) (u : Value) (hu : (f s.data.toList).getD z = u) (hK : wpList Tryz.prog ops Q rest (a.put o.dst u) w) : wpList Tryz.prog ops Q (o :: rest) a w := by
 refine wpList_plain hg fun K' hK' => ?_
 have hrun := hown.look ht hz s hs hu
 unfold Oper.wp
 simp [execOp, hop, hm, hx, hrun, Result.andThen]
 exact hK' _ _ hK
theorem wpList_look_ok_v (hg : o.guard = none) (m x : Operand) (t e : TypeId) (hop : o.op = Op.lookup t m x true) (ht : Tryz.prog.underlying t = some (.map 9 e)) (z : Value) (hz : (zeroValue e).run Tryz.prog w = .ok z w)
  (hm : a.eval m = .map (some M)) (s : ByteArray) (hx : a.eval x = .string s) (hown : VMap w M n f) (hs : s.size ≤ maxLen) (u : Value) (hu : (f s.data.toList).getD z = u) (b : Bool) (hb : (f s.data.toList).isSome = b) (hK : wpList Tryz.prog ops Q rest (a.put o.dst (.tuple #[u, .bool b])) w) : wpList Tryz.prog ops Q (o :: rest) a w := by
 refine wpList_plain hg fun K' hK' => ?_
 have hrun := hown.look_ok ht hz s hs hu hb
 unfold Oper.wp
 simp [execOp, hop, hm, hx, hrun, Result.andThen]
 exact hK' _ _ hK
theorem wpList_put_v (hg : o.guard = none) (m x v : Operand) (t e : TypeId) (hop : o.op = Op.mapUpdate t m x v) (ht : Tryz.prog.underlying t = some (.map 9 e))
  (hm : a.eval m = .map (some M)) (s : ByteArray) (hx : a.eval x = .string s) (val : Value) (hv : a.eval v = val) (hown : VMap w M n f) (hn : n < maxLen) (hs : s.size ≤ maxLen)
  (hK : ∀ w', VMap w' M (n + 1) (updF f s.data.toList (some val)) → w.grownBy w' (some M) → wpList Tryz.prog ops Q rest (a.put o.dst undef) w') : wpList Tryz.prog ops Q (o :: rest) a w := by
 refine wpList_plain hg fun K' hK' => ?_
 obtain ⟨w', hrun, r1, r2⟩ := hown.put ht hn s hs val
 unfold Oper.wp
 simp [execOp, hop, hm, hx, hv, hrun, Result.andThen]
 exact hK' _ _ (hK w' r1 r2)
theorem wpList_drop_v (hg : o.guard = none) (m x : Operand) (t e : TypeId) (hop : o.op = Op.call { callee := Callee.builtin Builtin.delete, args := #[m, x], argTypes := #[t, 9] }) (ht : Tryz.prog.underlying t = some (.map 9 e))
  (hm : a.eval m = .map (some M)) (s : ByteArray) (hx : a.eval x = .string s) (hown : VMap w M n f) (hs : s.size ≤ maxLen)
  (hK : ∀ w', VMap w' M n (updF f s.data.toList none) → w.grownBy w' (some M) → wpList Tryz.prog ops Q rest (a.put o.dst (.tuple #[])) w') : wpList Tryz.prog ops Q (o :: rest) a w := by
 refine wpList_plain hg fun K' hK' => ?_
 obtain ⟨w', hrun, r1, r2⟩ := hown.drop ht s hs o.type
 unfold Oper.wp
 simp [execOp, hop, resolve, invoke, builtin, hm, hx, hrun, Result.andThen]
 exact hK' _ _ (hK w' r1 r2)
end
set_option maxRecDepth 100000 in
theorem mclone_any (M n : Nat) (f : List UInt8 → Option Value) (w : World) (h : VMap w M n f) :
  Calls Tryz.prog 78 #[.map (some M)] w fun e w' => e = .returned (.map (some w.heap.size)) ∧ VMap w' w.heap.size n f ∧ Below w.heap.size w w' := by
 obtain ⟨D, ⟨es, clock, hb, hr⟩, h3⟩ := h
 have hq := fun w => run_eql_map_nil_sl (P := Tryz.prog) w 142 _ _ (some M) Tryz.underlying142
 have H : Hid (VMap (w.alloc (.map es clock)) w.heap.size n f ∧ Below w.heap.size w (w.alloc (.map es clock))) := Lib.hid ⟨⟨D, ⟨es, clock, (MapKept.heap_alloc w _).1, hr⟩, h3⟩, (Below.refl _ w).alloc (Nat.le_refl _) _⟩
 go_enter Tryz.func78, Tryz.ntmps78
 go_wp2
 rw [run_callFunc_extern Tryz.func110 (by kernel_rfl) (by kernel_rfl) (by kernel_rfl) (e := Extern.MapsClone.clone) (by kernel_rfl), run_maps_clone_sl w 142 hb]
 simp only [Result.andThen]
 rw [Oper.upon_value]
 go_wp2
 rw [run_typeAssert_map_sl _ 142 20 _ _ _ Tryz.underlying142]
 simp only [Result.andThen]
 rw [Oper.upon_value]
 go_wp2
 go_ret
 exact ⟨rfl, H.out⟩
end Go.Proofs.YtopghlnoklajkaaGreatDoor

namespace Go.Proofs.YtopghlnoklajkaaGreatDoor
open Go.ChangeShapes Go.WideShapes Go.ChangeAt Go.RowKit

theorem rcut_any (d : UInt8) (s : ByteArray) (w : World) (hs : s.size ≤ 4294967280) (hm : MaxI w) :
  Calls Tryz.prog 55 #[.string s, .string ⟨#[d]⟩] w fun e w' => e = .returned (.tuple #[.string (mkB (upTo d s.data.toList)), .string (mkB (if s.data.toList.contains d then after d s.data.toList else [])), .bool (s.data.toList.contains d)]) ∧ Below w.heap.size w w' := by
 obtain ⟨m, hm⟩ := hm
 refine (Any.strings_Cut Tryz.lays145 s ⟨#[d]⟩ m w (by omega) hm).mono fun e w' ⟨he, n, hw⟩ => ⟨?_, by rw [hw]; exact below_drewN w n⟩
 rw [he]
 show Ending.returned (.tuple #[.string (mkB (Lib.cut s.data.toList [d]).1), .string (mkB (Lib.cut s.data.toList [d]).2.1), .bool (Lib.cut s.data.toList [d]).2.2]) = _
 rw [cut_is]
 by_cases h : s.data.toList.contains d = true
 ·rw [if_pos h, if_pos h, h]
 ·rw [if_neg h, if_neg h, upTo_none (by simpa using h)]
  simp only [Bool.not_eq_true] at h
  rw [h]
theorem hasP_is (d : UInt8) (l : List UInt8) : Lib.hasPrefix l [d] = decide (l.head? = some d) := by
 cases l with
 | nil => rfl
 | cons c r =>
  show ((d == c) && true) = _
  rw [Bool.and_true, List.head?_cons]
  by_cases h : c = d
  ·subst h; simp
  ·rw [decide_eq_false (fun e => h (Option.some.inj e)), beq_eq_false_iff_ne.2 (fun e => h e.symm)]
theorem trimP_is (d : UInt8) (l : List UInt8) : Lib.trimPrefix l [d] = if l.head? = some d then l.tail else l := by
 unfold Lib.trimPrefix
 rw [hasP_is]
 by_cases h : l.head? = some d
 ·rw [decide_eq_true h, if_pos rfl, if_pos h]
  cases l <;> rfl
 ·rw [decide_eq_false h, if_neg (by decide), if_neg h]
theorem rpre_any (d : UInt8) (s : ByteArray) (w : World) : Calls Tryz.prog 56 #[.string s, .string ⟨#[d]⟩] w fun e w' => e = .returned (.tuple #[.string (mkB (if s.data.toList.head? = some d then s.data.toList.tail else s.data.toList)), .bool (decide (s.data.toList.head? = some d))]) ∧ w = w' :=
 (Any.strings_CutPrefix Tryz.lays103 s ⟨#[d]⟩ w).mono fun e w' ⟨he, hw⟩ => ⟨by
  rw [he]
  show Ending.returned (.tuple #[.string (mkB (Lib.trimPrefix s.data.toList [d])), .bool (Lib.hasPrefix s.data.toList [d])]) = _
  rw [hasP_is, trimP_is], hw.symm⟩
theorem mkB_list (l : List UInt8) : (mkB l).data.toList = l := mkB_data l
theorem mkB_sz (l : List UInt8) : (mkB l).size = l.length := by
 show (mkB l).data.size = l.length
 simp [mkB]
def cutA (c : List UInt8 × List UInt8 × List UInt8 × Bool) : Value := .tuple #[.string (mkB c.1), .string (mkB c.2.1), .string (mkB c.2.2.1), .bool c.2.2.2]
theorem slice_plain (s : ByteArray) (h : s.data.toList.contains 36 = true) (W : World) :
  (Instr.slice 9 (.string s) none (some (.int .i64 (((mkB (upTo 36 s.data.toList)).size : Int) + 1))) none).run Tryz.prog W = .ok (.string (mkB (upTo 36 s.data.toList ++ [36]))) W := by
 have hw := whole_is 36 s.data.toList h
 have hl := congrArg List.length hw
 rw [List.length_append, List.length_cons] at hl
 have e1 : s.data.toList.length = s.size := by simp
 rw [mkB_sz]
 rw [show ((upTo 36 s.data.toList).length : Int) + 1 = (((upTo 36 s.data.toList).length + 1 : Nat) : Int) by omega]
 rw [run_slice_string_h (ht := Tryz.underlying9) (h0 := by omega) (h2 := by omega)]
 show Result.ok (Value.string (s.extract 0 ((upTo 36 s.data.toList).length + 1))) W = _
 rw [← mkB_self (s.extract 0 ((upTo 36 s.data.toList).length + 1)), Lib.extract_from_zero]
 congr 2
 congr 1
 generalize upTo 36 s.data.toList = a at hw hl ⊢
 rw [hw, List.take_append, List.take_of_length_le (by omega), Nat.add_sub_cancel_left]
 rfl
set_option maxHeartbeats 1600000 in
set_option maxRecDepth 100000 in
theorem rfcut_any (s : ByteArray) (w : World) (hs : s.size ≤ 4294967280) (hm : MaxI w) (hT : Tab w) :
  Calls Tryz.prog 26 #[.string s] w fun e w' => e = .returned (cutA (cutC s.data.toList)) ∧ Below w.heap.size w w' := by
 have hsl : s.data.toList.length = s.size := by simp
 have HC1 := Lib.hid (rcut_any 36 s w hs hm)
 have HM : Hid (∀ W, Below w.heap.size w W → MaxI W ∧ Tab W) := Lib.hid fun W hb => ⟨hm.below hb, hT.below hb⟩
 unfold cutA cutC
 by_cases h : s.data.toList.contains 36 = true
 ·have hal : (after 36 s.data.toList).length < s.size := by have := after_less h; omega
  rw [if_pos h]
  rw [h] at HC1
  have hsli := slice_plain s h
  rw [if_pos rfl] at HC1
  obtain ⟨r, hr⟩ : ∃ r, after 36 s.data.toList = r := ⟨_, rfl⟩
  rw [hr] at HC1 hal ⊢
  have HP1 : Hid (∀ W, Calls Tryz.prog 56 #[.string (mkB r), .string ⟨#[36]⟩] W fun e w' => e = .returned (.tuple #[.string (mkB (if r.head? = some 36 then r.tail else r)), .bool (decide (r.head? = some 36))]) ∧ W = w') := Lib.hid fun W => by
   have := rpre_any 36 (mkB r) W
   rw [mkB_list] at this; exact this
  have HP2 : Hid (∀ W, Calls Tryz.prog 56 #[.string (mkB r), .string ⟨#[123]⟩] W fun e w' => e = .returned (.tuple #[.string (mkB (openR r)), .bool (decide (r.head? = some 123))]) ∧ W = w') := Lib.hid fun W => by
   have := rpre_any 123 (mkB r) W
   rw [mkB_list] at this; exact this
  have hol := openR_len r
  have hoz : (mkB (openR r)).size ≤ 4294967280 := by rw [mkB_sz]; omega
  have HC2 : Hid (∀ W, Below w.heap.size w W → Calls Tryz.prog 55 #[.string (mkB (openR r)), .string ⟨#[125]⟩] W fun e w' => e = .returned (.tuple #[.string (mkB (upTo 125 (openR r))), .string (mkB (if (openR r).contains 125 then after 125 (openR r) else [])), .bool ((openR r).contains 125)]) ∧ Below W.heap.size W w') := Lib.hid fun W hb => by
   have := rcut_any 125 (mkB (openR r)) W hoz (HM.out W hb).1
   rw [mkB_list] at this; exact this
  have HNM : Hid (∀ W, Below w.heap.size w W → Calls Tryz.prog 57 #[.string (mkB (upTo 125 (openR r)))] W fun e w' => e = .returned (.bool (nameB (upTo 125 (openR r)))) ∧ W = w') := Lib.hid fun W hb => by
   have := isName_any (mkB (upTo 125 (openR r))) W (HM.out W hb).2 (by rw [mkB_sz]; have := upTo_len 125 (openR r); unfold maxLen; omega)
   rw [mkB_list] at this; exact this
  have hpz : (mkB (upTo 36 s.data.toList)).size + 1 ≤ s.size := by
   have hl := congrArg List.length (whole_is 36 s.data.toList h)
   rw [List.length_append, List.length_cons] at hl
   rw [mkB_sz]; omega
  have HOK : Hid (cutOk r = (decide (r.head? = some 123) && ((openR r).contains 125 && nameB (upTo 125 (openR r))))) := Lib.hid rfl
  rw [HOK.out]
  obtain ⟨PB, hPB⟩ : ∃ PB, mkB (upTo 36 s.data.toList) = PB := ⟨_, rfl⟩
  obtain ⟨PC, hPC⟩ : ∃ PC, mkB (upTo 36 s.data.toList ++ [36]) = PC := ⟨_, rfl⟩
  rw [hPB] at HC1 hsli hpz
  rw [hPC] at hsli
  have qw : IntKind.i64.wrap ((PB.size : Int) + 1) = (PB.size : Int) + 1 := IntWalk.i64_in _ (by omega)
  clear hm hT HM h hr hsl hal hol hoz hpz hs HOK
  by_cases h2 : r.head? = some 36
  ·rw [if_pos h2]
   rw [decide_eq_true h2, if_pos h2] at HP1
   simp only
   rw [hPC]
   generalize mkB r.tail = RT at *
   generalize mkB r = RB at *
   clear HP2 HC2 HNM h2 hPB hPC
   go_enter Tryz.func26, Tryz.ntmps26
   go_wp2_with fail
   refine HC1.out.mono ?_
   rintro e w1 ⟨rfl, hb1⟩
   go_wp2_with fail
   refine (HP1.out _).mono ?_
   rintro e w2 ⟨rfl, rfl⟩
   go_wp2
   exact bodyPost_ret (v := .tuple #[.string PC, .string (mkB []), .string RT, .bool true]) (by simp [results, Tryz.results26, go_sem]; rfl) rfl ⟨rfl, hb1⟩
  ·rw [if_neg h2]
   rw [decide_eq_false h2] at HP1
   simp only
   rw [hPB]
   have hRB : Hid (∃ QB, mkB (if r.head? = some 36 then r.tail else r) = QB) := Lib.hid ⟨_, rfl⟩
   obtain ⟨QB, hQB⟩ := hRB.out
   rw [hQB] at HP1
   clear hRB hPC hPB hsli qw hQB
   generalize mkB r = RB at *
   generalize mkB (if (openR r).contains 125 = true then after 125 (openR r) else []) = AB at *
   generalize mkB (upTo 125 (openR r)) = NB at *
   generalize mkB (openR r) = OB at *
   generalize nameB (upTo 125 (openR r)) = b3 at *
   generalize (openR r).contains 125 = b2 at *
   cases ho : decide (r.head? = some 123) with
   | false =>
    rw [ho] at HP2
    clear ho HNM h2
    go_enter Tryz.func26, Tryz.ntmps26
    go_wp2_with fail
    refine HC1.out.mono ?_
    rintro e w1 ⟨rfl, hb1⟩
    go_wp2_with fail
    refine (HP1.out _).mono ?_
    rintro e w2 ⟨rfl, rfl⟩
    go_wp2_with fail
    refine (HP2.out _).mono ?_
    rintro e w2 ⟨rfl, rfl⟩
    go_wp2_with fail
    refine (HC2.out _ hb1).mono ?_
    rintro e w2 ⟨rfl, hb2⟩
    have HB2 := Lib.hid (hb1.trans (hb2.mono hb1.size))
    clear hb1 hb2 HC1 HP1 HP2 HC2
    go_wp2
    exact bodyPost_ret (v := .tuple #[.string PB, .string NB, .string AB, .bool false]) (by simp [results, Tryz.results26, go_sem]) rfl ⟨rfl, HB2.out⟩
   | true =>
    rw [ho] at HP2
    clear ho h2
    cases b2 with
    | false =>
     clear HNM
     go_enter Tryz.func26, Tryz.ntmps26
     go_wp2_with fail
     refine HC1.out.mono ?_
     rintro e w1 ⟨rfl, hb1⟩
     go_wp2_with fail
     refine (HP1.out _).mono ?_
     rintro e w2 ⟨rfl, rfl⟩
     go_wp2_with fail
     refine (HP2.out _).mono ?_
     rintro e w2 ⟨rfl, rfl⟩
     go_wp2_with fail
     refine (HC2.out _ hb1).mono ?_
     rintro e w2 ⟨rfl, hb2⟩
     have HB2 := Lib.hid (hb1.trans (hb2.mono hb1.size))
     clear hb1 hb2 HC1 HP1 HP2 HC2
     go_wp2
     exact bodyPost_ret (v := .tuple #[.string PB, .string NB, .string AB, .bool false]) (by simp [results, Tryz.results26, go_sem]) rfl ⟨rfl, HB2.out⟩
    | true =>
     go_enter Tryz.func26, Tryz.ntmps26
     go_wp2_with fail
     refine HC1.out.mono ?_
     rintro e w1 ⟨rfl, hb1⟩
     go_wp2_with fail
     refine (HP1.out _).mono ?_
     rintro e w2 ⟨rfl, rfl⟩
     go_wp2_with fail
     refine (HP2.out _).mono ?_
     rintro e w2 ⟨rfl, rfl⟩
     go_wp2_with fail
     refine (HC2.out _ hb1).mono ?_
     rintro e w2 ⟨rfl, hb2⟩
     have HB2 := Lib.hid (hb1.trans (hb2.mono hb1.size))
     clear hb1 hb2 HC1 HP1 HP2 HC2
     go_wp2_with fail
     refine (HNM.out _ HB2.out).mono ?_
     rintro e w3 ⟨rfl, rfl⟩
     go_wp2
     exact bodyPost_ret (v := .tuple #[.string PB, .string NB, .string AB, .bool b3]) (by simp [results, Tryz.results26, go_sem]) rfl ⟨rfl, HB2.out⟩
 ·rw [if_neg h]
  simp only [Bool.not_eq_true] at h
  rw [h] at HC1
  simp only [mkB_self]
  generalize mkB (upTo 36 s.data.toList) = PB at *
  rw [if_neg (by decide)] at HC1
  clear hm hT HM h hsl hs
  go_enter Tryz.func26, Tryz.ntmps26
  go_wp2_with fail
  refine HC1.out.mono ?_
  rintro e w1 ⟨rfl, hb1⟩
  go_wp2
  exact bodyPost_ret (v := .tuple #[.string s, .string (mkB []), .string (mkB []), .bool true]) (by simp [results, Tryz.results26, go_sem]; rfl) rfl ⟨rfl, hb1⟩
end Go.Proofs.YtopghlnoklajkaaGreatDoor

namespace Go.Proofs.YtopghlnoklajkaaGreatDoor
open Go.ChangeShapes Go.WideShapes Go.ChangeAt Go.RowKit

def nmS (n : List UInt8) : Value := .string ⟨n.toArray⟩
def NmRes (w : World) (p : List (List UInt8) × Int) (e : Ending) (w' : World) : Prop :=
 ∃ v, e = .returned (.tuple #[v, .int .i64 p.2]) ∧ w'.ownsRow w.heap.size 9 1 v p.1.length (p.1.map nmS) ∧ Below w.heap.size w w'
theorem appendNm {ops : Array Oper} {rest : List Oper} {o : Oper} {a : Act} {Q : Exit → Act → World → Prop} (hgd : o.guard = none) (s x : Operand)
  (ho : o.op = .call { callee := .builtin .append, args := #[s, x], argTypes := #[24, 24] }) {B n : Nat} {w : World} {v : Value} {ts : List (List UInt8)} (hown : w.ownsRow B 9 1 v n (ts.map nmS)) (hB : B ≤ w.heap.size) (hn : n ≤ 10000000000) (t : List UInt8) (u : ByteArray) (hu : u = ⟨t.toArray⟩) (hs : a.eval s = v)
  {c g : Nat} (hx : a.eval x = .slice (some ⟨g, 0, none⟩) 1 c) (hg : g = w.heap.size)
  (h : ∀ y cap w', w'.ownsRow B 9 1 (.slice (some ⟨y, 0, none⟩) (n + 1) cap) (n + 1) ((ts ++ [t]).map nmS) → (w.alloc (Obj.cells #[.string u] 9)).grownBy w' v.ownBlock → wpList Tryz.prog ops Q rest (a.put o.dst (.slice (some ⟨y, 0, none⟩) (n + 1) cap)) w') :
  wpList Tryz.prog ops Q (o :: rest) a (w.alloc (Obj.cells #[.string u] 9)) := by
 subst hg hu
 obtain ⟨i0, hi, hz0, hz1, hz2⟩ := info_parts infoStr
 refine wpList_append_lies _ hgd s x _ ho B 9 i0 _ 1 16 Tryz.underlying24 hi hz0 hz1 hz2 rfl (by decide) v n (ts.map nmS) hs (hown.alloc _) ⟨w.heap.size, 0, none⟩ 1 c [nmS t] hx rfl (World.news_of_block (heap_alloc_new w _)) ?_ (by decide) (by unfold maxLen; omega) (by omega) (Nat.le_trans hB (below_one w _).size) _ rfl ?_
 ·intro u' hu'
  rw [List.mem_singleton.1 hu']; rfl
 ·intro y cap w1 h1 h2 _ _
  exact h y cap w1 (by rw [List.map_append]; exact h1) h2
end Go.Proofs.YtopghlnoklajkaaGreatDoor

namespace Go.Proofs.YtopghlnoklajkaaGreatDoor
open Go.ChangeShapes Go.WideShapes Go.ChangeAt Go.RowKit

theorem zeroE (w : World) : (zeroValue 64).run Tryz.prog w = .ok (.agg #[]) w := by kernel_rfl
def toldF (ts : List (List UInt8)) (k : List UInt8) : Option Value := if ts.contains k = true then some (.agg #[]) else none
theorem toldF_get (ts : List (List UInt8)) (k : List UInt8) : (toldF ts k).getD (.agg #[]) = .agg #[] ∧ (toldF ts k).isSome = ts.contains k := by
 unfold toldF
 cases ts.contains k <;> simp
theorem toldF_put (ts : List (List UInt8)) (n k : List UInt8) : updF (toldF ts) n (some (.agg #[])) k = toldF (ts ++ [n]) k := by
 unfold updF toldF
 have h : (ts ++ [n]).contains k = (ts.contains k || (k == n)) := by
  rw [Bool.eq_iff_iff]
  simp only [List.contains_iff_mem, List.mem_append, List.mem_singleton, Bool.or_eq_true, beq_iff_eq]
 rw [h]
 by_cases e : k = n
 ·subst e; simp
 ·rw [if_neg e, beq_eq_false_iff_ne.2 e, Bool.or_false]
structure NmW (w wr : World) (v : Value) (ts : List (List UInt8)) : Prop where
 below : Below w.heap.size w wr
 own : wr.ownsRow w.heap.size 9 1 v ts.length (ts.map nmS)
 map_ : VMap wr w.heap.size ts.length (toldF ts)
theorem NmW.after {w wr w' : World} {v : Value} {ts : List (List UInt8)} (h : NmW w wr v ts) (hb : Below wr.heap.size wr w') : NmW w w' v ts :=
 ⟨h.below.trans (hb.mono h.below.size), rowBelow h.own hb, h.map_.below hb⟩
theorem NmW.start (w : World) : NmW w (w.alloc (.map #[] 0)) (.slice none 0 0) [] :=
 ⟨(Below.refl _ w).alloc (Nat.le_refl _) _, World.ownsRow_nil _ _ _ _, (VMap.made w).ext fun _ => rfl⟩
def strLen : Value → Nat
 | .string s => s.size
 | _ => 0
theorem rowMap {w w' : World} {M B n : Nat} {e : TypeId} {size : Nat} {v : Value} {xs : List Value} {f : List UInt8 → Option Value} {k : Nat} (h : w.ownsRow B e size v n xs) (hm : VMap w M k f) (hg : w.grownBy w' (some M)) : w'.ownsRow B e size v n xs := by
 refine h.kept hg ?_
 rcases h.2 with ⟨h1, _⟩ | ⟨g, cap, cur, h1, _, hgg, _⟩
 ·left; rw [h1]; rfl
 ·right
  rw [h1]
  intro e
  have e : g = M := by simpa [Value.ownBlock] using e
  subst e
  obtain ⟨D, ⟨es, clock, hb, _⟩, _⟩ := hm
  rw [hb] at hgg
  cases hgg
theorem mapRow {w w' : World} {M B n : Nat} {e : TypeId} {size : Nat} {v : Value} {xs : List Value} {f : List UInt8 → Option Value} {k : Nat} (hm : VMap w M k f) (h : w.ownsRow B e size v n xs) (hg : w.grownBy w' v.ownBlock) : VMap w' M k f := by
 refine hm.same (hg.block M hm.lt ?_)
 rcases h.2 with ⟨h1, _⟩ | ⟨g, cap, cur, h1, _, hgg, _⟩
 ·rw [h1]; simp [Value.ownBlock]
 ·rw [h1]
  intro e
  have e : M = g := by simpa [Value.ownBlock] using e
  subst e
  obtain ⟨D, ⟨es, clock, hb, _⟩, _⟩ := hm
  rw [hb] at hgg
  cases hgg
set_option maxHeartbeats 3200000 in
set_option maxRecDepth 100000 in
theorem rnames_any (s0 : ByteArray) (w : World) (hs : s0.size ≤ 4294967280) (hm : MaxI w) (hT : Tab w) :
  Calls Tryz.prog 9 #[.string s0] w (NmRes w (namesB s0.data.toList)) := by
 obtain ⟨R, hR⟩ : ∃ R, namesB s0.data.toList = R := ⟨_, rfl⟩
 have HI : Hid (NmInv s0.data.toList [] R) := Lib.hid (by rw [← hR]; exact NmInv.start _)
 obtain ⟨N, hN⟩ : ∃ N, s0.size = N := ⟨_, rfl⟩
 have hl0 : s0.data.toList.length = N := by rw [← hN]; simp
 rw [hR, ← mkB_self s0]
 generalize s0.data.toList = l0 at *
 rw [hN] at hs
 have HCUT : Hid (∀ (s : List UInt8) (W : World), Below w.heap.size w W → s.length ≤ N → Calls Tryz.prog 26 #[.string (mkB s)] W fun e w' => e = .returned (cutA (cutC s)) ∧ Below W.heap.size W w') := Lib.hid fun s W hb hl => by
  have := rfcut_any (mkB s) W (by rw [mkB_sz]; omega) (hm.below hb) (hT.below hb)
  rw [mkB_list] at this; exact this
 have HCL : Hid (∀ (s : List UInt8) (W : World), s.length ≤ N → Calls Tryz.prog 27 #[.string (mkB s)] W fun e w' => e = .returned (.string (mkB s)) ∧ Below W.heap.size W w') := Lib.hid fun s W hl => clone_any (mkB s) W (by rw [mkB_sz]; omega)
 have H0 : Hid (NmW w (w.alloc (.map #[] 0)) (.slice none 0 0) []) := Lib.hid (NmW.start w)
 have hmm := @run_makeMap Tryz.prog
 clear hR hm hT hN
 go_enter Tryz.func9, Tryz.ntmps9
 go_wp2
 clear hmm
 go_loopw [0, 4] (fun sv v wr => ∃ (s : List UInt8) (ts : List (List UInt8)), sv = .string (mkB s) ∧ s.length + ts.length ≤ N ∧ Hid (NmInv s ts R) ∧ Hid (NmW w wr v ts)) (fun sv _ _ => strLen sv)
 case atStart => exact ⟨_, [], rfl, by simp; omega, HI, H0⟩
 case round =>
  clear HI H0
  obtain ⟨s, ts, rfl, hl, HI, HW⟩ := hrel
  by_cases hse : s = []
  ·subst hse
   have HRR : Hid (R = (ts, 0)) := Lib.hid HI.out.end_
   clear HI HCUT HCL
   have e0 : mkB [] = (⟨#[]⟩ : ByteArray) := rfl
   rw [e0]
   clear e0
   go_wp2
   go_ret2
   rw [HRR.out]
   exact ⟨_, rfl, HW.out.own, HW.out.below⟩
  ·have hs1 : s.length ≤ N := by omega
   have HC := Lib.hid (HCUT.out s wr HW.out.below hs1)
   have hcl := cut_less hse
   have hcz := cut_len s
   have q1 : (mkB s).toList.isEmpty = false := by
    rw [Lib.toList_data, mkB_list]
    cases s with
    | nil => exact absurd rfl hse
    | cons c r => rfl
   obtain ⟨⟨p, nm, r, ok⟩, hcc⟩ : ∃ c, cutC s = c := ⟨_, rfl⟩
   rw [hcc] at HC hcl hcz
   unfold cutA at HC
   simp only at HC hcl hcz
   have HCC := Lib.hid hcc
   have HS : Hid (strLen (.string (mkB r)) < strLen (.string (mkB s))) := Lib.hid (by show (mkB r).size < (mkB s).size; rw [mkB_sz, mkB_sz]; exact hcl)
   generalize mkB s = SB at *
   cases ok with
   | false =>
    have HRR : Hid (R = ([], 100)) := Lib.hid (HI.out.bad hcc)
    clear HI HCUT HCL hcc hse hcz hcl HS
    go_wp2_with fail
    refine HC.out.mono ?_
    rintro e w1 ⟨rfl, hb1⟩
    have HW1 := Lib.hid (HW.out.after hb1)
    clear hb1 HC HW
    go_wp2
    go_ret2
    rw [HRR.out]
    exact ⟨_, rfl, World.ownsRow_nil _ _ _ _, HW1.out.below⟩
   | true =>
    obtain ⟨g1, g2⟩ := toldF_get ts nm
    have hnz : (mkB nm).size ≤ maxLen := by rw [mkB_sz]; unfold maxLen; omega
    rw [← mkB_list nm] at g1 g2
    by_cases hn0 : nm = []
    ·subst hn0
     have HI2 := Lib.hid (HI.out.plain hcc)
     have q2 : (mkB []).toList.isEmpty = true := by rw [Lib.toList_data, mkB_list]; rfl
     clear hcc HI HCUT HCL hse
     generalize mkB [] = NB at *
     go_wp2_with fail
     refine HC.out.mono ?_
     rintro e w1 ⟨rfl, hb1⟩
     have HW1 := Lib.hid (HW.out.after hb1)
     clear hb1 HC HW
     go_wp2_with (at_lookup; refine wpList_look_ok_v rfl _ _ 61 64 rfl Tryz.underlying61 _ (zeroE _) rfl _ rfl HW1.out.map_ hnz _ g1 _ g2 ?_)
     go_roundw
     case rel => exact ⟨_, ts, rfl, by omega, HI2, Lib.hid (HW1.out.after (below_one _ _))⟩
     case measure => exact HS.out
    ·have q2 : (mkB nm).toList.isEmpty = false := by
      rw [Lib.toList_data, mkB_list]
      cases nm with
      | nil => exact absurd rfl hn0
      | cons c r => rfl
     have HI2 := Lib.hid (HI.out.ref hcc hn0)
     have HADD := Lib.hid (addN_has ts nm)
     have HCN := Lib.hid (fun W => HCL.out nm W (by omega))
     cases hts : ts.contains nm with
     | true =>
      rw [mkB_list, hts] at g2
      rw [← mkB_list nm] at g2
      have HI3 : Hid (NmInv r ts R) := Lib.hid (by have h := HI2.out; rwa [HADD.out, if_pos hts] at h)
      clear hcc HI HI2 HCUT HCL hse HCN HADD hts
      generalize mkB nm = NB at *
      go_wp2_with fail
      refine HC.out.mono ?_
      rintro e w1 ⟨rfl, hb1⟩
      have HW1 := Lib.hid (HW.out.after hb1)
      clear hb1 HC HW
      go_wp2_with (at_lookup; refine wpList_look_ok_v rfl _ _ 61 64 rfl Tryz.underlying61 _ (zeroE _) rfl _ rfl HW1.out.map_ hnz _ g1 _ g2 ?_)
      go_roundw
      case rel => exact ⟨_, ts, rfl, by omega, HI3, Lib.hid (HW1.out.after (below_one _ _))⟩
      case measure => exact HS.out
     | false =>
      rw [mkB_list, hts] at g2
      rw [← mkB_list nm] at g2
      have HI3 : Hid (NmInv r (ts ++ [nm]) R) := Lib.hid (by have h := HI2.out; rwa [HADD.out, if_neg (by rw [hts]; simp)] at h)
      obtain ⟨m, hm⟩ : ∃ m, ts.length = m := ⟨_, rfl⟩
      have HM := Lib.hid hm
      have HFT : Hid (∀ W M k, VMap W M k (updF (toldF ts) (mkB nm).data.toList (some (.agg #[]))) → VMap W M k (toldF (ts ++ [nm]))) := Lib.hid fun W M k h => h.ext fun x => by rw [mkB_list]; exact toldF_put ts nm x
      have HPT : Hid (∀ W, NmW w W u4 ts → W.ownsRow w.heap.size 9 1 u4 m (ts.map nmS) ∧ VMap W w.heap.size m (toldF ts)) := Lib.hid fun W h => by rw [← hm]; exact ⟨h.own, h.map_⟩
      have hmx : m < maxLen := by unfold maxLen; omega
      have hlen : (ts ++ [nm]).length = m + 1 := by rw [List.length_append, hm]; rfl
      have HLEN := Lib.hid hlen
      have hzr : r.length + (m + 1) ≤ N := by omega
      clear hcc HI HI2 HCUT HCL hse HADD hts hlen
      go_wp2_with fail
      refine HC.out.mono ?_
      rintro e w1 ⟨rfl, hb1⟩
      have HW1 := Lib.hid (HW.out.after hb1)
      clear hb1 HC HW
      go_wp2_with (first
       | (at_lookup; refine wpList_look_ok_v rfl _ _ 61 64 rfl Tryz.underlying61 _ (zeroE _) rfl _ rfl HW1.out.map_ hnz _ g1 _ g2 ?_)
       | fail)
      refine (HCN.out _).mono ?_
      rintro e w2 ⟨rfl, hb2⟩
      have HW2 := Lib.hid ((HW1.out.after (below_one _ _)).after hb2)
      clear hb2 HW1
      go_wp2_with (first
       | (at_mapUpdate; refine wpList_put_v rfl _ _ _ 61 64 rfl Tryz.underlying61 rfl _ rfl _ rfl (HPT.out _ HW2.out).2 hmx hnz ?_; intro w3 hm3 hg3; have HM3 := Lib.hid (HFT.out _ _ _ hm3); have HR3 := Lib.hid (rowMap (HPT.out _ HW2.out).1 (HPT.out _ HW2.out).2 hg3); have HB3 : Hid (Below w.heap.size w w3) := Lib.hid (HW2.out.below.grown hg3 HW2.out.below.size (fun k hk => by injection hk with hk; omega)); clear hm3 hg3)
       | (at_builtin; refine appendNm rfl _ _ rfl HR3.out HB3.out.size (by omega) nm _ rfl rfl rfl rfl ?_; intro y cap w4 ho hg; have HW4 : Hid (NmW w w4 (.slice (some ⟨y, 0, none⟩) (m + 1) cap) (ts ++ [nm])) := Lib.hid ⟨(HB3.out.alloc HB3.out.size _).grown hg (Nat.le_trans HB3.out.size (below_one _ _).size) (fun k hk => (HR3.out.lt k hk).1), by rw [HLEN.out]; exact ho, by rw [HLEN.out]; exact mapRow (HM3.out.below (below_one _ _)) (HR3.out.alloc _) hg⟩; clear ho hg)
       | fail)
      go_roundw
      case rel => exact ⟨_, ts ++ [nm], rfl, by rw [HLEN.out]; exact hzr, HI3, HW4⟩
      case measure => exact HS.out
end Go.Proofs.YtopghlnoklajkaaGreatDoor
