/-
  StpOrd, Upd, StpSrt.
-/
import Derived.Test.YticcdighfojjjaaGreatDoorQStpMath
import Derived.Sort.Statements
import Derived.Shelf.SlSortCmp.Insertion
import Derived.Lib.Bytealg
import Derived.Test.YticcdighfojjjaaGreatDoorQBut
import Derived.ProofKit
import Derived.OpenShut
import Derived.WalkLawsBesides
import Derived.Laws.AppendOwn
import Derived.Test.YticcdighfojjjaaGreatDoorQPrKit
import Derived.Test.YticcdighfojjjaaGreatDoorShelf
import Derived.Test.YticcdighfojjjaaGreatDoorShelfK
import Derived.Deep.RegionHeld3
namespace Go.Proofs.YticcdighfojjjaaGreatDoor

theorem cmpL_lt : ∀ a b : List UInt8, Lib.compareBytes a b < 0 ↔ Op.bytesLess a b = true
  | [], [] => by simp [Lib.compareBytes, Op.bytesLess]
  | [], _ :: _ => by simp [Lib.compareBytes, Op.bytesLess]
  | _ :: _, [] => by simp [Lib.compareBytes, Op.bytesLess]
  | x :: a, y :: b => by
    unfold Lib.compareBytes Op.bytesLess
    simp only [Bool.or_eq_true, Bool.and_eq_true, decide_eq_true_eq, beq_iff_eq]
    by_cases h1 : x < y
    · rw [if_pos h1]; simp [h1]
    · rw [if_neg h1]
      by_cases h2 : y < x
      · rw [if_pos h2]
        have : x ≠ y := fun e => by rw [e] at h2; exact UInt8.lt_irrefl y h2
        simp [h1, this]
      · rw [if_neg h2]
        have e : x = y := UInt8.le_antisymm (UInt8.not_lt.1 h2) (UInt8.not_lt.1 h1)
        rw [cmpL_lt a b]
        simp [e]
theorem cmpL_eq0 : ∀ a b : List UInt8, Lib.compareBytes a b = 0 ↔ a = b
  | [], [] => by simp [Lib.compareBytes]
  | [], _ :: _ => by simp [Lib.compareBytes]
  | _ :: _, [] => by simp [Lib.compareBytes]
  | x :: a, y :: b => by
    unfold Lib.compareBytes
    by_cases h1 : x < y
    · rw [if_pos h1]
      have : x ≠ y := fun e => by rw [e] at h1; exact UInt8.lt_irrefl y h1
      simp [this]
    · rw [if_neg h1]
      by_cases h2 : y < x
      · rw [if_pos h2]
        have : x ≠ y := fun e => by rw [e] at h2; exact UInt8.lt_irrefl y h2
        simp [this]
      · rw [if_neg h2]
        have e : x = y := UInt8.le_antisymm (UInt8.not_lt.1 h2) (UInt8.not_lt.1 h1)
        rw [cmpL_eq0 a b]
        simp [e]
def cmpTx (a b : ByteArray) : Int := Lib.compareBytes a.data.toList b.data.toList
def cmpP (x y : PairV) : Int := if cmpTx x.table y.table ≠ 0 then cmpTx x.table y.table else cmpTx x.key y.key
theorem cmpTx_lt (a b : ByteArray) : cmpTx a b < 0 ↔ ltB a b = true := by unfold cmpTx ltB; rw [Lib.toList_data, Lib.toList_data]; exact cmpL_lt _ _
theorem cmpTx_eq (a b : ByteArray) : cmpTx a b = 0 ↔ eqB a b = true := by
  unfold cmpTx eqB; rw [Lib.toList_data, Lib.toList_data, beq_iff_eq]; exact cmpL_eq0 _ _
theorem cmpP_lt (x y : PairV) : cmpP x y < 0 ↔ lessP x y = true := by
  unfold cmpP lessP
  simp only [Bool.or_eq_true, Bool.and_eq_true]
  by_cases h : cmpTx x.table y.table = 0
  · rw [if_neg (by simpa using h), cmpTx_lt]
    have h1 := (cmpTx_eq _ _).1 h
    have h2 : ¬ ltB x.table y.table = true := fun e => by have := (cmpTx_lt _ _).2 e; omega
    simp [h1, h2]
  · rw [if_pos h, cmpTx_lt]
    have h1 : ¬ eqB x.table y.table = true := fun e => h ((cmpTx_eq _ _).2 e)
    simp [h1]
theorem ltOf_cmpP (x y : PairV) : ltOf cmpP x y = lessP x y := by
  unfold ltOf
  rw [Bool.eq_iff_iff, decide_eq_true_eq]
  exact cmpP_lt x y
theorem swoP : Go.Sort.SWO (ltOf cmpP) where
  irrefl x := by rw [ltOf_cmpP]; exact lessP_irrefl x
  trans x y z h1 h2 := by rw [ltOf_cmpP] at *; exact lessP_trans h1 h2
  ntrans x y z h1 h2 := by
    rw [ltOf_cmpP] at *
    cases h : lessP x z with
    | false => rfl
    | true =>
      exfalso
      cases h3 : lessP y x with
      | true =>
        rw [lessP_trans h3 h] at h2; cases h2
      | false =>
        obtain ⟨e1, e2⟩ := lessP_tri h1 h3
        rw [lessP_key' e1 e2, h] at h2; cases h2
end Go.Proofs.YticcdighfojjjaaGreatDoor

namespace Go.Proofs.YticcdighfojjjaaGreatDoor
open Go.ChangeShapes Go.WideShapes Go.ChangeAt Go.RowKit

/-- All that was there is as it was, but for the blocks F. -/
structure Upd (F : List Nat) (w w' : World) : Prop where
  os : w'.os = w.os
  tape : w'.tape = w.tape
  output : w'.output = w.output
  size : w.heap.size ≤ w'.heap.size
  block : ∀ k, k < w.heap.size → k ∉ F → w'.heap[k]? = w.heap[k]?
theorem Upd.refl (F : List Nat) (w : World) : Upd F w w := ⟨rfl, rfl, rfl, Nat.le_refl _, fun _ _ _ => rfl⟩
theorem Upd.trans {F G : List Nat} {a b c : World} (h : Upd F a b) (k : Upd G b c) (hG : ∀ x ∈ G, x ∈ F ∨ a.heap.size ≤ x) : Upd F a c :=
  ⟨k.os.trans h.os, k.tape.trans h.tape, k.output.trans h.output, Nat.le_trans h.size k.size, fun i hi hn => by
    rw [k.block i (Nat.lt_of_lt_of_le hi h.size) (fun hx => by rcases hG i hx with h1 | h1
                                                               · exact hn h1
                                                               · omega)]
    exact h.block i hi hn⟩
theorem Upd.below {F : List Nat} {B : Nat} {a b : World} (h : Upd F a b) (hF : ∀ x ∈ F, B ≤ x) (hB : B ≤ a.heap.size) : Below B a b :=
  ⟨h.os, h.tape, h.output, h.size, fun k hk => h.block k (Nat.lt_of_lt_of_le hk hB) (fun hx => by have := hF k hx; omega)⟩
theorem Upd.setCell {F : List Nat} {a w : World} (h : Upd F a w) {p : Addr} (hp : p.block ∈ F ∨ a.heap.size ≤ p.block) (u : Value) : Upd F a (w.setCell p u) :=
  h.trans (G := [p.block]) ⟨rfl, rfl, rfl, by simp [World.setCell], fun k _ hk => Below.heap_setCell _ _ _ _ (by simpa using hk)⟩ (fun x hx => by simp at hx; subst hx; exact hp)
theorem Upd.grown {F : List Nat} {a w w' : World} {row : Option Nat} (h : Upd F a w) (hg : w.grownBy w' row) (hr : ∀ k, row = some k → k ∈ F ∨ a.heap.size ≤ k) : Upd F a w' :=
  h.trans (G := row.toList) ⟨hg.os, hg.tape, hg.output, hg.size, fun k hk hn => hg.block k hk (fun e => hn (by rw [← e]; simp))⟩ (fun x hx => hr x (by simpa using hx))
theorem Upd.drewN {F : List Nat} {a w : World} (h : Upd F a w) (n : Nat) : Upd F a (w.drewN n) := ⟨h.os, h.tape, h.output, h.size, h.block⟩
theorem Upd.drew {F : List Nat} {a w : World} (h : Upd F a w) : Upd F a w.drew := ⟨h.os, h.tape, h.output, h.size, h.block⟩
theorem Upd.mono {F G : List Nat} {a b : World} (h : Upd F a b) (hs : ∀ x ∈ F, x ∈ G) : Upd G a b := ⟨h.os, h.tape, h.output, h.size, fun k hk hn => h.block k hk (fun hx => hn (hs k hx))⟩

theorem cell_at {w : World} {b k : Nat} {cs : Array Value} {t : TypeId} {f : Nat × Nat} {v : Value} (h : w.heap[b]? = some (.cells cs t f)) (hv : cs[k]? = some v) : w.cell? ⟨b, k, none⟩ = some v := by
  simp [World.cell?, h, hv]
theorem Upd.cell {F : List Nat} {w w' : World} (h : Upd F w w') {b : Nat} (hb : b < w.heap.size) (hn : b ∉ F) (o : Nat) : w'.cell? ⟨b, o, none⟩ = w.cell? ⟨b, o, none⟩ := by
  have := h.block b hb hn
  unfold World.cell?
  rw [this]
end Go.Proofs.YticcdighfojjjaaGreatDoor

namespace Go.Proofs.YticcdighfojjjaaGreatDoor
open Go.ChangeShapes Go.WideShapes Go.ChangeAt Go.RowKit

theorem scompare_any (a b : ByteArray) (w : World) : Calls Tryz.prog 65 #[.string a, .string b] w fun e w' => e = .returned (.int .i64 (cmpTx a b)) ∧ w = w' :=
  (Any.strings_Compare Tryz.lays106 a b w).mono fun _ _ ⟨he, hw⟩ => ⟨he, hw.symm⟩
theorem orI_any (w : World) (g c : Nat) (a b : Int) (ha : w.cell? ⟨g, 0, none⟩ = some (.int .i64 a)) (hb : w.cell? ⟨g, 1, none⟩ = some (.int .i64 b)) :
    Calls Tryz.prog 64 #[.slice (some ⟨g, 0, none⟩) 2 c] w fun e w' => e = .returned (.int .i64 (if a ≠ 0 then a else b)) ∧ w = w' := by
  go_enter Tryz.func64, Tryz.ntmps64
  go_wp2
  go_loopw [8] (fun i wr => ∃ t : Nat, i = .int .i64 t ∧ t ≤ 2 ∧ wr = w ∧ (0 < t → a = 0) ∧ (1 < t → b = 0)) (fun i _ => 2 - (intOf i).toNat)
  case atStart => exact ⟨0, rfl, by omega, rfl, fun h => absurd h (by omega), fun h => absurd h (by omega)⟩
  case round =>
    obtain ⟨t, rfl, ht, rfl, h0, h1⟩ := hrel
    rcases (by omega : t = 0 ∨ t = 1 ∨ t = 2) with rfl | rfl | rfl
    · by_cases e : a = 0
      · subst e
        go_wp2
        go_roundw
        case rel => exact ⟨1, rfl, by omega, by simp⟩
        case measure => simp [intOf]
      · go_wp2
        go_ret
        simp
    · have e := h0 (by omega)
      subst e
      by_cases e : b = 0
      · subst e
        go_wp2
        go_roundw
        case rel => exact ⟨2, rfl, by omega, by simp⟩
        case measure => simp [intOf]
      · go_wp2
        go_ret
        simp
    · have e := h0 (by omega)
      have e2 := h1 (by omega)
      subst e e2
      go_wp2
      go_ret
      simp
theorem new0 {W : World} {n : Nat} {cs : Array Value} {T : TypeId} {v : Value} (hn : W.heap.size = n) (hc : cs[0]? = some v) : (W.alloc (.cells cs T)).cell? ⟨n, 0, none⟩ = some v := by
  subst hn
  rw [cell_of_row _ _ 0 _ _ _ (heap_alloc_new W _)]; exact hc
theorem new1 {W : World} {n : Nat} {cs : Array Value} {T : TypeId} {v : Value} (hn : W.heap.size = n) (hc : cs[1]? = some v) : (W.alloc (.cells cs T)).cell? ⟨n, 1, none⟩ = some v := by
  subst hn
  rw [cell_of_row _ _ 1 _ _ _ (heap_alloc_new W _)]; exact hc
theorem new0d {W : World} {n : Nat} {cs : Array Value} {T : TypeId} {v : Value} (hn : W.heap.size = n) (hc : cs[0]? = some v) : (W.alloc (.cells cs T)).drew.cell? ⟨n, 0, none⟩ = some v := new0 hn hc
theorem new1d {W : World} {n : Nat} {cs : Array Value} {T : TypeId} {v : Value} (hn : W.heap.size = n) (hc : cs[1]? = some v) : (W.alloc (.cells cs T)).drew.cell? ⟨n, 1, none⟩ = some v := new1 hn hc
theorem grown3 (w : World) (a b c : Obj) : ∃ q os, (((w.alloc a).alloc b).alloc c).drew = Go.Sort.grow (w.drewN q) os := ⟨1, #[a] ++ #[b] ++ #[c], by
  rw [Go.Sort.alloc_eq_grow, Go.Sort.alloc_eq_grow, Go.Sort.alloc_eq_grow, Go.Sort.grow_grow, Go.Sort.grow_grow]; rfl⟩
/-- The order of pairs. -/
theorem byP_any (x y : PairV) (w : World) : Calls Tryz.prog 42 #[.agg #[.string x.table, .string x.key, .string x.value], .agg #[.string y.table, .string y.key, .string y.value]] w fun e w' => e = .returned (.int .i64 (cmpP x y)) ∧ ∃ q os, w' = Go.Sort.grow (w.drewN q) os := by
  obtain ⟨t, k, u⟩ := x
  obtain ⟨t', k', u'⟩ := y
  have HC : Hid (∀ a b W, Calls Tryz.prog 65 #[.string a, .string b] W fun e w' => e = .returned (.int .i64 (cmpTx a b)) ∧ W = w') := Lib.hid fun a b W => scompare_any a b W
  have HR : cmpP ⟨t, k, u⟩ ⟨t', k', u'⟩ = if cmpTx t t' ≠ 0 then cmpTx t t' else cmpTx k k' := rfl
  rw [HR]
  clear HR
  simp only
  have H1 := Lib.hid (HC.out t t')
  have H2 := Lib.hid (HC.out k k')
  clear HC
  generalize cmpTx t t' = A at *
  generalize cmpTx k k' = B at *
  have HO : Hid (∀ W g c, W.cell? ⟨g, 0, none⟩ = some (.int .i64 A) → W.cell? ⟨g, 1, none⟩ = some (.int .i64 B) → Calls Tryz.prog 64 #[.slice (some ⟨g, 0, none⟩) 2 c] W fun e w' => e = .returned (.int .i64 (if A ≠ 0 then A else B)) ∧ W = w') := Lib.hid fun W g c h1 h2 => orI_any W g c A B h1 h2
  obtain ⟨R, hR⟩ : ∃ R, (if A ≠ 0 then A else B) = R := ⟨_, rfl⟩
  rw [hR] at HO ⊢
  clear hR
  have HS0 : Hid (∀ t1 t2, let W := ((w.alloc (.cells #[.string t, .string k, .string u] t1)).alloc (.cells #[.string t', .string k', .string u'] t2)).drew; W.cell? ⟨w.heap.size, 0, none⟩ = some (.string t) ∧ W.cell? ⟨w.heap.size, 1, none⟩ = some (.string k) ∧ W.cell? ⟨w.heap.size + 1, 0, none⟩ = some (.string t') ∧ W.cell? ⟨w.heap.size + 1, 1, none⟩ = some (.string k')) := Lib.hid fun t1 t2 => by
    have h1 := heap_alloc_new w (.cells #[.string t, .string k, .string u] t1)
    have h2 := (heap_alloc_old (w.alloc (.cells #[.string t, .string k, .string u] t1)) (.cells #[.string t', .string k', .string u'] t2) (by simp : w.heap.size < _)).trans h1
    have h3 := heap_alloc_new (w.alloc (.cells #[.string t, .string k, .string u] t1)) (.cells #[.string t', .string k', .string u'] t2)
    have e : (w.alloc (.cells #[.string t, .string k, .string u] t1)).heap.size = w.heap.size + 1 := by simp
    rw [e] at h3
    exact ⟨cell_at h2 (k := 0) rfl, cell_at h2 (k := 1) rfl, cell_at h3 (k := 0) rfl, cell_at h3 (k := 1) rfl⟩
  go_enter Tryz.func42, Tryz.ntmps42
  go_wp2
  go_region_held3 (fun W => W.cell? ⟨w.heap.size, 0, none⟩ = some (.string t) ∧ W.cell? ⟨w.heap.size, 1, none⟩ = some (.string k) ∧ W.cell? ⟨w.heap.size + 1, 0, none⟩ = some (.string t') ∧ W.cell? ⟨w.heap.size + 1, 1, none⟩ = some (.string k'))
    (first | assumption | exact HS0.out _ _ | exact ⟨Lib.cell?_alloc_some _ (And.left (by assumption)), Lib.cell?_alloc_some _ (And.left (And.right (by assumption))), Lib.cell?_alloc_some _ (And.left (And.right (And.right (by assumption)))), Lib.cell?_alloc_some _ (And.right (And.right (And.right (by assumption))))⟩) (first
    | (go_at_call 65; (with_reducible refine (H1.out _).mono ?_); rintro e w2 ⟨rfl, rfl⟩; dsimp only)
    | (go_at_call 65; (with_reducible refine (H2.out _).mono ?_); rintro e w2 ⟨rfl, rfl⟩; dsimp only)
    | (go_at_call 64; refine (HO.out _ _ _ (new0d (by simp) rfl) (new1d (by simp) rfl)).mono ?_; rintro e w2 ⟨rfl, rfl⟩; dsimp only)
    | fail)
  all_goals
    go_wp2
    go_ret
    exact ⟨rfl, grown3 _ _ _ _⟩
theorem below_grow (w : World) (q : Nat) (os : Array Obj) : Below w.heap.size w (Go.Sort.grow (w.drewN q) os) := ⟨rfl, rfl, rfl, by rw [Go.Sort.size_grow]; exact Nat.le_add_right _ _, fun k hk => Go.Sort.heap_grow_old _ _ hk⟩
/-- A row, as the library's sort holds it. -/
theorem holdsP {B n cap g : Nat} {w : World} {ps : List PairV} (h : w.ownsRow B 51 3 (.slice (some ⟨g, 0, none⟩) n cap) n (pFlat ps)) (hn : ps.length = n) : Go.Sort.HoldsK pCells 3 w g 0 ps.toArray := by
  intro j hj
  rw [Go.Sort.size_flatK] at hj
  have hj2 : j < ps.length * 3 := by simpa using hj
  have hk : j / 3 < ps.length := by omega
  have h2 := pFlat_at ps (j / 3) hk (j % 3) (by omega)
  rw [show j / 3 * 3 + j % 3 = j by omega] at h2
  rw [Go.Sort.get_flatK _ _ _ _ hj, Nat.zero_add]
  have e1 : ps.toArray[j / 3]! = ps[j / 3] := by rw [getElem!_pos ps.toArray (j / 3) (by simpa using hk)]; simp
  rw [e1, h.cellAt j (by omega)]
  refine ⟨h2.trans ?_, h.frozenAt j⟩
  rcases (by omega : j % 3 = 0 ∨ j % 3 = 1 ∨ j % 3 = 2) with e | e | e <;> rw [e] <;> rfl
theorem flatK_list (d : Array PairV) : (Go.Sort.flatK pCells 3 d).toList = pFlat d.toList := by
  apply List.ext_getElem?
  intro j
  have hl := pFlat_len d.toList
  by_cases hj : j < d.size * 3
  · have hj2 : j < (Go.Sort.flatK pCells 3 d).size := by rw [Go.Sort.size_flatK]; exact hj
    have hk : j / 3 < d.toList.length := by rw [Array.length_toList]; omega
    have h2 := pFlat_at d.toList (j / 3) hk (j % 3) (by omega)
    rw [show j / 3 * 3 + j % 3 = j by omega] at h2
    rw [h2, Array.getElem?_toList, Array.getElem?_eq_getElem hj2]
    have h3 := Go.Sort.get_flatK pCells 3 d j hj
    rw [getElem!_pos (Go.Sort.flatK pCells 3 d) j hj2] at h3
    rw [h3]
    have e1 : d[j / 3]! = d.toList[j / 3] := by rw [getElem!_pos d (j / 3) (by simpa using hk)]; simp
    rw [e1]
    rcases (by omega : j % 3 = 0 ∨ j % 3 = 1 ∨ j % 3 = 2) with e | e | e <;> rw [e] <;> rfl
  · rw [List.getElem?_eq_none (by rw [Array.length_toList, Go.Sort.size_flatK]; omega), List.getElem?_eq_none (by rw [hl, Array.length_toList]; omega)]
theorem putCells_take (d c : Array Value) (h : d.size ≤ c.size) : (Go.Sort.putCells id 0 d c).toList.take d.size = d.toList ∧ (Go.Sort.putCells id 0 d c).size = c.size := by
  refine ⟨?_, by simp [Go.Sort.putCells]⟩
  apply List.ext_getElem?
  intro j
  rw [List.getElem?_take]
  by_cases hj : j < d.size
  · rw [if_pos hj, Array.getElem?_toList, Array.getElem?_toList, Array.getElem?_eq_getElem hj]
    have hc : j < c.size := by omega
    simp [Go.Sort.putCells, hc, hj]
  · rw [if_neg hj, List.getElem?_eq_none (by simpa using hj)]
/-- What the sort leaves of a row of a call's own. -/
theorem ownsRow_sorted {B n cap g q : Nat} {w : World} {ps : List PairV} {os : Array Obj} (h : w.ownsRow B 51 3 (.slice (some ⟨g, 0, none⟩) n cap) n (pFlat ps)) (d : Array PairV) (hd : d.size = n) :
    (sortWorldK pCells 3 w g 0 q d os).ownsRow B 51 3 (.slice (some ⟨g, 0, none⟩) n cap) n (pFlat d.toList) ∧ w.grownBy (sortWorldK pCells 3 w g 0 q d os) (some g) := by
  have hU : w.grownBy (sortWorldK pCells 3 w g 0 q d os) (some g) := by
    refine ⟨rfl, rfl, rfl, ?_, fun k hk hn => ?_⟩
    · unfold sortWorldK
      rw [Go.Sort.size_grow]
      show w.heap.size ≤ (Go.Sort.putRowK pCells 3 (Go.Sort.ahead w q) g 0 d).heap.size + _
      unfold Go.Sort.putRowK
      rw [Go.Sort.size_putRow]
      exact Nat.le_add_right _ _
    · have hne : g ≠ k := fun e => hn (by rw [e])
      unfold sortWorldK Go.Sort.putRowK
      rw [Go.Sort.heap_grow_old _ _ (by simpa using hk)]
      simp [Go.Sort.putRow, Go.Sort.mapBlock, Go.Sort.ahead, Array.getElem?_modify, hne]
  refine ⟨⟨by rw [pFlat_len, Array.length_toList, hd], ?_⟩, hU⟩
  rcases h.2 with ⟨h', _⟩ | ⟨g', cap', cur, h', hb, hg, hnc, hcm, hcs, _⟩
  · simp at h'
  · simp only [Value.slice.injEq, Option.some.injEq, Addr.mk.injEq, and_true, true_and] at h'
    obtain ⟨rfl, rfl⟩ := h'
    have hlt : g < w.heap.size := (Array.getElem?_eq_some_iff.1 hg).1
    have hsz : (Go.Sort.flatK pCells 3 d).size = n * 3 := by rw [Go.Sort.size_flatK, hd]
    obtain ⟨p1, p2⟩ := putCells_take (Go.Sort.flatK pCells 3 d) cur (by rw [hsz, hcs]; exact Nat.mul_le_mul_right _ hnc)
    refine .inr ⟨g, cap, Go.Sort.putCells id 0 (Go.Sort.flatK pCells 3 d) cur, rfl, hb, ?_, hnc, hcm, by rw [p2, hcs], ?_⟩
    · unfold sortWorldK Go.Sort.putRowK
      rw [Go.Sort.heap_grow_old _ _ (by simpa using hlt)]
      simp [Go.Sort.putRow, Go.Sort.mapBlock, Go.Sort.ahead, Array.getElem?_modify, hg, Go.Sort.onCells]
    · rw [← hsz, p1, flatK_list]
/-- Pairs that are sorted. -/
theorem sortP_any (w : World) (B g n c : Nat) (ps : List PairV) (hn : ps.length = n) (h : w.ownsRow B 51 3 (.slice (some ⟨g, 0, none⟩) n c) n (pFlat ps)) (ha : ps.Pairwise fun p q => ¬ (p.table = q.table ∧ p.key = q.key)) (hl : ps.length ≤ 10000000) :
    Calls Tryz.prog 41 #[.slice (some ⟨g, 0, none⟩) n c, .func (.func 42) #[] #[]] w fun e w' => e = .returned (.tuple #[]) ∧ ∃ ps' : List PairV, ps'.Perm ps ∧ Rise ps' ∧ w'.ownsRow B 51 3 (.slice (some ⟨g, 0, none⟩) n c) n (pFlat ps') ∧ w.grownBy w' (some g) := by
  have hH := holdsP h hn
  have hg : g < w.heap.size := (World.ownsRow.lt h g rfl).2
  subst hn
  have eg : ∀ args w, (callFunc 42 args).run Tryz.prog w = .ok (.enter 42 args) w := enters_of Tryz.func42 (by kernel_rfl) rfl
  have hcmp : CmpLays Tryz.prog 42 #[] pCells 3 cmpP g 0 ps.toArray.size w := fun _ _ _ _ x y => byP_any x y _
  have hcon := AnyQ.slices_SortFunc Tryz.sortPr 3 (fun w => by kernel_rfl) (fun w => by kernel_rfl) pCells (fun _ => rfl) pCells_one cmpP swoP 42 #[] g 0 c ps.toArray w eg hcmp hH hg (by simp; omega)
  change Calls Tryz.prog 41 _ _ _ at hcon
  rw [List.size_toArray] at hcon
  refine hcon.mono fun e w' ⟨he, d', q, os, hp, hs, hw⟩ => ?_
  obtain ⟨h1, _, h2⟩ := hp
  have e0 : d'.size = ps.length := by rw [h1]; simp
  have hperm : d'.toList.Perm ps := by
    have e1 : d'.extract 0 ps.length = d' := by rw [← e0, Array.extract_size]
    have e2 : ps.toArray.extract 0 ps.length = ps.toArray := by simp
    rw [e1, e2] at h2
    simpa using h2
  have hsorted := ownsRow_sorted (q := q) (os := os) h d' e0
  rw [← hw] at hsorted
  refine ⟨he, d'.toList, hperm, ?_, hsorted.1, hsorted.2⟩
  have hnd : d'.toList.Pairwise fun p q => ¬ (p.table = q.table ∧ p.key = q.key) := (hperm.pairwise_iff (fun {a b} h ⟨e1, e2⟩ => h ⟨e1.symm, e2.symm⟩)).2 ha
  refine List.pairwise_iff_getElem.2 fun i j hi hj hij => ?_
  have hi2 : i < d'.size := by simpa using hi
  have hj2 : j < d'.size := by simpa using hj
  have hs2 := hs i j (Nat.zero_le _) hij (by omega)
  rw [ltOf_cmpP, getElem!_pos d' i hi2, getElem!_pos d' j hj2] at hs2
  rw [Array.getElem_toList, Array.getElem_toList]
  cases hx : lessP d'[i] d'[j] with
  | true => rfl
  | false =>
    exfalso
    obtain ⟨e1, e2⟩ := lessP_tri hs2 hx
    have h5 := (List.pairwise_iff_getElem.1 hnd) i j hi hj hij
    rw [Array.getElem_toList, Array.getElem_toList] at h5
    exact h5 ⟨e1, e2⟩
end Go.Proofs.YticcdighfojjjaaGreatDoor
