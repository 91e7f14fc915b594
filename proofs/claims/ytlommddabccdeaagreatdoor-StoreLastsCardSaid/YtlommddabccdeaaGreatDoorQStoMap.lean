/-
  StoMap.
-/
import Derived.Test.YtlommddabccdeaaGreatDoorQStoBehM
import Derived.Maps.OwnSet
import Derived.Maps.Views
import Derived.Maps.RangeWalk
import Derived.Deep.RegionLaw
import Derived.DeepKeys4
namespace Go.Proofs.YtlommddabccdeaaGreatDoor
open Go.ChangeShapes Go.WideShapes Go.ChangeAt Go.RowKit Go.Maps

def heldC (v : Value) : Option (DataW Value × List MemPlace) := some (.held v, [])
theorem heldC_is (v : Value) : heldC v = some (.held v, []) := rfl
def plcV (t k : ByteArray) : Value := .agg #[.string t, .string k]
def klit (t k : ByteArray) : Lit := .string (keyBytes [.string t.data.toList, .string k.data.toList])
theorem plcLaid : laidOutB Tryz.prog = true := by kernel_rfl
theorem plcWide : (match Tryz.prog.underlying 66 with | some (.array _ _) | some (.struct _) => true | _ => false) = true := by rw [Tryz.underlying66]
theorem plcRow : (66 : TypeId) < Tryz.prog.types.size := of_decide_eq_true (by kernel_rfl)
set_option maxRecDepth 100000 in
theorem plcLaw : WideMaps.KeyLaw Tryz.prog 66 := deep_law_laid plcLaid (m := 2) (by omega) plcRow (by kernel_rfl) plcWide
theorem plcKy : Maps.Keyed Tryz.prog 66 := Maps.Keyed.of_law plcLaw
theorem plcCells : Tryz.prog.cellsOf 66 = 2 := by kernel_rfl
theorem strCells : Tryz.prog.cellsOf 9 = 1 := by kernel_rfl
set_option maxRecDepth 100000 in
theorem plcFormed (a b : Value) : (Value.agg #[a, b]).formed Tryz.prog 66 = true := by simp [Value.formed, Tryz.underlying66, plcCells]
theorem plcKT : Tryz.prog.keyType 66 = true := by kernel_rfl
theorem plcSz : ∃ m, Tryz.prog.types.size = m + 1 := ⟨_, (by kernel_rfl : Tryz.prog.types.size = Tryz.prog.types.size - 1 + 1)⟩
set_option maxRecDepth 100000 in
theorem plcLits (m : Nat) (cs : List Value) : Tryz.prog.keyLits (m + 2) 66 cs = match cs with
  | [.string t, .string k] => if t.size ≤ maxLen ∧ k.size ≤ maxLen then some [.string t.data.toList, .string k.data.toList] else none
  | _ => none := by
 unfold Program.keyLits
 simp only [Tryz.underlying66]
 by_cases h2 : cs.length = 2
 ·match cs, h2 with
  | [a, b], h9 =>
   clear h9
   rw [if_pos ⟨by rw [plcCells]; rfl, by kernel_rfl⟩]
   simp only [List.mapM_cons, List.mapM_nil, Program.keyLits, Tryz.underlying9, strCells]
   cases a <;> cases b <;> simp
   rename_i t k
   by_cases h3 : t.size ≤ maxLen
   ·by_cases h4 : k.size ≤ maxLen
    ·simp [h3, h4]
    ·simp [h3, h4]
   ·by_cases h4 : k.size ≤ maxLen
    ·simp [h3, h4]
    ·simp [h3]
 ·rw [if_neg (by rw [plcCells]; exact fun h => h2 h.1)]
  split
  ·simp at h2
  ·rfl
set_option maxRecDepth 100000 in
theorem keyPlc (t k : ByteArray) (ht : t.size ≤ maxLen) (hk : k.size ≤ maxLen) : Go.keyOf Tryz.prog 66 (plcV t k) = some (klit t k) := by
 obtain ⟨m, hm⟩ := plcSz
 unfold Go.keyOf
 rw [Tryz.underlying66]
 simp only
 unfold plcV
 rw [if_pos (by rw [plcKT, plcFormed]; rfl), hm, plcLits]
 simp [Value.cells, ht, hk, klit]
set_option maxRecDepth 100000 in
theorem keyPlc_inv {v : Value} {l : Lit} (h : Go.keyOf Tryz.prog 66 v = some l) : ∃ t k : ByteArray, v = plcV t k ∧ l = klit t k ∧ t.size ≤ maxLen ∧ k.size ≤ maxLen := by
 obtain ⟨m, hm⟩ := plcSz
 obtain ⟨xs, L, rfl, hL, rfl⟩ := keyOf_top plcWide h
 rw [hm, plcLits] at hL
 split at hL
 ·rename_i t k he
  split at hL
  ·rename_i hs
   cases hL
   refine ⟨t, k, ?_, rfl, hs⟩
   have : xs = #[.string t, .string k] := by rw [← Array.toList_inj, he]
   rw [this]; rfl
  ·cases hL
 ·cases hL
theorem klit_inj {t k t' k' : ByteArray} (h : klit t k = klit t' k') (h1 : t.size ≤ maxLen) (h2 : k.size ≤ maxLen) (h3 : t'.size ≤ maxLen) (h4 : k'.size ≤ maxLen) : t = t' ∧ k = k' := by
 have e := plcKy.inj (keyPlc t k h1 h2) (by rw [h]; exact keyPlc t' k' h3 h4)
 unfold plcV at e
 injection e with e
 simpa using e
theorem klit_key (t k : ByteArray) : WideAt.IsKeyLit (klit t k) := trivial
def KMap (w : World) (M n : Nat) (f : ByteArray → ByteArray → Option Value) : Prop :=
 ∃ D, w.ownsMap Tryz.prog 66 heldC M n D ∧ Maps.size D = n ∧ ∀ t k : ByteArray, t.size ≤ maxLen → k.size ≤ maxLen → Maps.has D (klit t k) = (f t k).isSome ∧ ∀ v, f t k = some v → ∀ z, D.atKey (klit t k) z = .held v
def updK (f : ByteArray → ByteArray → Option Value) (t k : ByteArray) (v : Option Value) : ByteArray → ByteArray → Option Value := fun t' k' => if t' = t ∧ k' = k then v else f t' k'
theorem owns_tight {w : World} {M n : Nat} {D : DataW Value} (h : w.ownsMap Tryz.prog 66 heldC M n D) : w.ownsMap Tryz.prog 66 heldC M (Maps.size D) D := by
 obtain ⟨es, clock, h1, h2, h3, h4⟩ := h
 refine ⟨es, clock, h1, h2, ?_, h4⟩
 rw [h4]
 simp [Maps.size, length_sorted]
set_option maxRecDepth 100000 in
theorem owns_keys {w : World} {M n : Nat} {es : List (Lit × DataW Value)} (h : w.ownsMap Tryz.prog 66 heldC M n (.map es)) : ∀ p ∈ es, ∃ t k : ByteArray, p.1 = klit t k ∧ t.size ≤ maxLen ∧ k.size ≤ maxLen := by
 obtain ⟨xs, clock, _, F, _, h4⟩ := h
 injection h4 with h4
 intro p hp
 rw [h4] at hp
 obtain ⟨x, hx, rfl⟩ := List.mem_map.1 (mem_sorted.1 hp)
 obtain ⟨y, hy⟩ := F.reads x hx
 rw [WideElems.rg_of hy]
 obtain ⟨t, k, _, e, h1, h2⟩ := keyPlc_inv (WideElems.rd_key hy)
 exact ⟨t, k, e, h1, h2⟩
section
variable {w w' : World} {M n : Nat} {f : ByteArray → ByteArray → Option Value}
theorem KMap.lt (h : KMap w M n f) : M < w.heap.size := by
 obtain ⟨D, h1, _⟩ := h
 exact h1.lt
theorem KMap.same (h : KMap w M n f) (hb : w'.heap[M]? = w.heap[M]?) : KMap w' M n f := by
 obtain ⟨D, ⟨es, clock, h1, h2⟩, h3⟩ := h
 exact ⟨D, ⟨es, clock, by rw [hb]; exact h1, h2⟩, h3⟩
theorem KMap.below (h : KMap w M n f) (hb : Below w.heap.size w w') : KMap w' M n f := h.same (hb.block M h.lt)
theorem KMap.made (w : World) : KMap (w.alloc (.map #[] 0)) w.heap.size 0 (fun _ _ => none) := ⟨_, World.ownsMap_made w _ _ _, rfl, fun t k _ _ => ⟨rfl, fun v h => by cases h⟩⟩
theorem KMap.ext {g : ByteArray → ByteArray → Option Value} (h : KMap w M n f) (he : ∀ t k, f t k = g t k) : KMap w M n g := by
 have : f = g := funext fun t => funext fun k => he t k
 rw [← this]; exact h
theorem heldC_of {D : DataW Value} {t k : ByteArray} {z v : Value} {ps : List MemPlace} (h3 : Maps.has D (klit t k) = (f t k).isSome ∧ ∀ v, f t k = some v → ∀ z, D.atKey (klit t k) z = .held v) (hv : heldC v = some (D.atKey (klit t k) (.held z), ps)) : v = (f t k).getD z := by
 obtain ⟨a, b⟩ := h3
 have hv2 : DataW.held v = D.atKey (klit t k) (.held z) := congrArg Prod.fst (Option.some.inj hv)
 cases hf : f t k with
 | none =>
  rw [hf] at a
  rw [Maps.atKey_of_not_has a] at hv2
  exact DataW.held.inj hv2
 | some x =>
  rw [b x hf] at hv2
  exact DataW.held.inj hv2
set_option maxRecDepth 100000 in
theorem KMap.look (h : KMap w M n f) {T e : TypeId} (ht : Tryz.prog.underlying T = some (.map 66 e)) {z : Value} (hz : (zeroValue e).run Tryz.prog w = .ok z w) (t k : ByteArray) (h1 : t.size ≤ maxLen) (h2 : k.size ≤ maxLen) {u : Value} (hu : (f t k).getD z = u) :
  (Instr.lookup T (.map (some M)) (plcV t k) false).run Tryz.prog w = .ok u w := by
 subst hu
 obtain ⟨D, ho, _, h3⟩ := h
 obtain ⟨v, ps, hrun, hv⟩ := ho.lookup plcKy ht hz (heldC_is z) (keyPlc t k h1 h2)
 have e := heldC_of (h3 t k h1 h2) hv
 rw [hrun, e]
set_option maxRecDepth 100000 in
theorem KMap.put (h : KMap w M n f) {T e : TypeId} (ht : Tryz.prog.underlying T = some (.map 66 e)) (hn : n < maxLen) (t k : ByteArray) (h1 : t.size ≤ maxLen) (h2 : k.size ≤ maxLen) (v : Value) :
  ∃ w', (Instr.mapUpdate T (.map (some M)) (plcV t k) v).run Tryz.prog w = .ok () w' ∧ (∃ n', KMap w' M n' (updK f t k (some v))) ∧ w.grownBy w' (some M) := by
 obtain ⟨D, ho, _, h3⟩ := h
 obtain ⟨w', hrun, hown, hg⟩ := ho.update plcKy ht hn (keyPlc t k h1 h2) (heldC_is v)
 refine ⟨w', hrun, ⟨_, _, owns_tight hown, rfl, fun t' k' h1' h2' => ?_⟩, hg⟩
 unfold updK
 by_cases e : t' = t ∧ k' = k
 ·obtain ⟨rfl, rfl⟩ := e
  rw [if_pos ⟨rfl, rfl⟩]
  refine ⟨Maps.has_put_same (ho.isMap) (klit_key _ _) _, fun x hx z => ?_⟩
  rw [Maps.atKey_put_same ho.isMap (klit_key _ _), Option.some.inj hx]
 ·have hne : klit t' k' ≠ klit t k := fun e2 => e (klit_inj e2 h1' h2' h1 h2)
  rw [if_neg e, Maps.has_put_other hne]
  refine ⟨(h3 t' k' h1' h2').1, fun x hx z => ?_⟩
  rw [Maps.atKey_put_other hne]
  exact (h3 t' k' h1' h2').2 x hx z
set_option maxRecDepth 100000 in
theorem KMap.drop (h : KMap w M n f) {T e : TypeId} (ht : Tryz.prog.underlying T = some (.map 66 e)) (t k : ByteArray) (h1 : t.size ≤ maxLen) (h2 : k.size ≤ maxLen) (ty : TypeId) :
  ∃ w', (Builtin.delete_ #[T, 66] ty #[.map (some M), plcV t k]).run Tryz.prog w = .ok (.tuple #[]) w' ∧ (∃ n', KMap w' M n' (updK f t k none)) ∧ w.grownBy w' (some M) := by
 obtain ⟨D, ho, _, h3⟩ := h
 obtain ⟨w', hrun, hown, hg⟩ := ho.drop plcKy ht (keyPlc t k h1 h2) ty
 refine ⟨w', hrun, ⟨_, _, owns_tight hown, rfl, fun t' k' h1' h2' => ?_⟩, hg.grown⟩
 unfold updK
 by_cases e : t' = t ∧ k' = k
 ·obtain ⟨rfl, rfl⟩ := e
  rw [if_pos ⟨rfl, rfl⟩]
  exact ⟨Maps.has_del_same, fun x hx => by cases hx⟩
 ·have hne : klit t' k' ≠ klit t k := fun e2 => e (klit_inj e2 h1' h2' h1 h2)
  rw [if_neg e, Maps.has_del_other hne]
  refine ⟨(h3 t' k' h1' h2').1, fun x hx z => ?_⟩
  rw [Maps.atKey_del_other hne]
  exact (h3 t' k' h1' h2').2 x hx z
theorem KMap.len (h : KMap w M n f) {T e : TypeId} (ht : Tryz.prog.underlying T = some (.map 66 e)) (ty : TypeId) : (Builtin.len_ #[T] ty #[.map (some M)]).run Tryz.prog w = .ok (.int .i64 n) w := by
 obtain ⟨D, ho, hn, _⟩ := h
 rw [← hn]
 exact ho.len ht ty
set_option maxRecDepth 100000 in
theorem KMap.le (h : KMap w M n f) (L : List (ByteArray × ByteArray)) (hL : ∀ t k : ByteArray, t.size ≤ maxLen → k.size ≤ maxLen → (f t k).isSome = true → (t, k) ∈ L) : n ≤ L.length := by
 haveI : DecidableEq Lit := fun a b => Classical.propDecidable (a = b)
 obtain ⟨D, ho, hn, h3⟩ := h
 obtain ⟨es, rfl, hd⟩ := ho.tidy plcKy
 have hk := owns_keys ho
 have h5 := sub_len (es.map (·.1)) (L.map fun x => klit x.1 x.2) (List.pairwise_map.2 hd) (fun x hx => by
  obtain ⟨p, hp, rfl⟩ := List.mem_map.1 hx
  obtain ⟨t, k, e, h1, h2⟩ := hk p hp
  have hh : Maps.has (.map es) (klit t k) = true := List.any_eq_true.2 ⟨p, hp, by rw [e]; exact WideAt.sameKey_self (klit_key t k)⟩
  rw [(h3 t k h1 h2).1] at hh
  exact List.mem_map.2 ⟨(t, k), hL t k h1 h2 hh, e.symm⟩)
 rw [List.length_map, List.length_map] at h5
 rw [← hn]
 exact h5
set_option maxRecDepth 100000 in
theorem KMap.ge (h : KMap w M n f) (L : List (ByteArray × ByteArray)) (hd : L.Nodup) (hL : ∀ x ∈ L, x.1.size ≤ maxLen ∧ x.2.size ≤ maxLen ∧ (f x.1 x.2).isSome = true) : L.length ≤ n := by
 haveI : DecidableEq Lit := fun a b => Classical.propDecidable (a = b)
 obtain ⟨D, ho, hn, h3⟩ := h
 obtain ⟨es, rfl, _⟩ := ho.tidy plcKy
 have h5 := sub_len (L.map fun x => klit x.1 x.2) (es.map (·.1)) ?_ (fun x hx => by
  obtain ⟨y, hy, rfl⟩ := List.mem_map.1 hx
  obtain ⟨h1, h2, h4⟩ := hL y hy
  rw [← (h3 _ _ h1 h2).1] at h4
  obtain ⟨p, hp, he⟩ := List.any_eq_true.1 h4
  exact List.mem_map.2 ⟨p, hp, WideAt.sameKey_eq he⟩)
 ·rw [List.length_map, List.length_map] at h5
  rw [← hn]
  exact h5
 ·refine List.pairwise_map.2 (List.Pairwise.imp_of_mem (fun {a b} ha hb hne e => ?_) hd)
  obtain ⟨a1, a2, _⟩ := hL a ha
  obtain ⟨b1, b2, _⟩ := hL b hb
  obtain ⟨e1, e2⟩ := klit_inj e a1 a2 b1 b2
  exact hne (Prod.ext e1 e2)
end
end Go.Proofs.YtlommddabccdeaaGreatDoor
