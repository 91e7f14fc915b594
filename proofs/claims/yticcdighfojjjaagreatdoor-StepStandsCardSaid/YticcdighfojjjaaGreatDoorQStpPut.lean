/-
  StpRow, StpDel, StpPut.
-/
import Derived.Test.YticcdighfojjjaaGreatDoorQPrOwn
import Derived.Test.YticcdighfojjjaaGreatDoorQStpMay
import Derived.Laws.OwnMore
import Derived.Laws.IdiomCopy
import Derived.Lib.SliceRun
import Derived.Test.YticcdighfojjjaaGreatDoorQStpFnd
import Derived.Test.YticcdighfojjjaaGreatDoorQStpRef4
import Derived.Deep.RegionHeld3
namespace Go.Proofs.YticcdighfojjjaaGreatDoor
open Go.ChangeShapes Go.WideShapes Go.ChangeAt Go.RowKit

/-- A list of pairs of a call's own, in memory from B on. -/
def RowP (B : Nat) (w : World) (v : Value) (ps : List PairV) : Prop := w.ownsRow B 51 3 v ps.length (pFlat ps)
section
variable {w w' : World} {B g n cap : Nat} {v : Value} {ps : List PairV}
theorem RowP.nil_ (B : Nat) (w : World) : RowP B w (.slice none 0 0) [] := World.ownsRow_nil _ _ _ _
theorem RowP.kept {row : Option Nat} (h : RowP B w v ps) (hg : w.grownBy w' row) (hne : v.ownBlock = none ∨ v.ownBlock ≠ row) : RowP B w' v ps := World.ownsRow.kept h hg hne
theorem RowP.below (h : RowP B w v ps) (hb : Below w.heap.size w w') : RowP B w' v ps :=
  h.kept (row := none) ⟨hb.os, hb.tape, hb.output, hb.size, fun k hk _ => hb.block k hk⟩ (by cases hv : v.ownBlock <;> simp)
theorem RowP.alloc (h : RowP B w v ps) (o : Obj) : RowP B (w.alloc o) v ps := World.ownsRow.alloc h o
theorem RowP.lt (h : RowP B w v ps) {k : Nat} (hk : v.ownBlock = some k) : B ≤ k ∧ k < w.heap.size := World.ownsRow.lt h k hk
theorem RowP.prs (h : RowP B w v ps) : ∃ x c, v = .slice x ps.length c ∧ PrsAt w x ps := PrsAt.of_own h rfl
theorem RowP.len (h : RowP B w (.slice (some ⟨g, 0, none⟩) n cap) ps) : n = ps.length ∧ n ≤ cap := by
  rcases h.2 with ⟨h1, _⟩ | ⟨g', cap', cur, h1, _, _, h2, _⟩
  · cases h1
  · injection h1 with e1 e2 e3
    subst e2 e3
    exact ⟨rfl, h2⟩
/-- How it looks. -/
theorem RowP.shape (h : RowP B w v ps) : (v = .slice none 0 0 ∧ ps = []) ∨ ∃ g cap, v = .slice (some ⟨g, 0, none⟩) ps.length cap ∧ ps.length ≤ cap ∧ B ≤ g ∧ g < w.heap.size := by
  rcases h.2 with ⟨rfl, hn⟩ | ⟨g, cap, cur, rfl, h4, h5, h6, _⟩
  · exact .inl ⟨rfl, List.eq_nil_of_length_eq_zero hn⟩
  · exact .inr ⟨g, cap, rfl, h6, h4, (Array.getElem?_eq_some_iff.1 h5).1⟩
theorem RowP.cells (h : RowP B w (.slice (some ⟨g, 0, none⟩) ps.length cap) ps) {k : Nat} (hk : k < ps.length) :
    w.cell? ⟨g, k * 3, none⟩ = some (.string ps[k].table) ∧ w.cell? ⟨g, k * 3 + 1, none⟩ = some (.string ps[k].key) ∧ w.cell? ⟨g, k * 3 + 2, none⟩ = some (.string ps[k].value) := by
  have hl := pFlat_len ps
  have h' : w.ownsRow B 51 3 (.slice (some ⟨g, 0, none⟩) ps.length cap) ps.length (pFlat ps) := h
  refine ⟨?_, ?_, ?_⟩
  · rw [h'.cellAt (k * 3) (by omega)]; exact pFlat_at ps k hk 0 (by decide)
  · rw [h'.cellAt (k * 3 + 1) (by omega)]; exact pFlat_at ps k hk 1 (by decide)
  · rw [h'.cellAt (k * 3 + 2) (by omega)]; exact pFlat_at ps k hk 2 (by decide)
theorem RowP.free (h : RowP B w (.slice (some ⟨g, 0, none⟩) ps.length cap) ps) (j : Nat) : w.frozen? ⟨g, j, none⟩ = false := World.ownsRow.frozenAt h j
theorem grown_trans {w w' w'' : World} {r : Option Nat} (h : w.grownBy w' r) (k : w'.grownBy w'' r) : w.grownBy w'' r :=
  ⟨k.os.trans h.os, k.tape.trans h.tape, k.output.trans h.output, Nat.le_trans h.size k.size, fun j hj hn => (k.block j (Nat.lt_of_lt_of_le hj h.size) hn).trans (h.block j hj hn)⟩
theorem grown_below {w w' : World} (h : Below w.heap.size w w') (r : Option Nat) : w.grownBy w' r := ⟨h.os, h.tape, h.output, h.size, fun k hk _ => h.block k hk⟩
theorem grown_refl (w : World) (r : Option Nat) : w.grownBy w r := ⟨rfl, rfl, rfl, Nat.le_refl _, fun _ _ _ => rfl⟩
/-- A whole pair is written over. -/
theorem RowP.put (h : RowP B w (.slice (some ⟨g, 0, none⟩) ps.length cap) ps) {k : Nat} (hk : k < ps.length) (l : PairV) :
    RowP B (((w.setCell ⟨g, k * 3, none⟩ (.string l.table)).setCell ⟨g, k * 3 + 1, none⟩ (.string l.key)).setCell ⟨g, k * 3 + 2, none⟩ (.string l.value)) (.slice (some ⟨g, 0, none⟩) ps.length cap) (ps.set k l) ∧
      w.grownBy (((w.setCell ⟨g, k * 3, none⟩ (.string l.table)).setCell ⟨g, k * 3 + 1, none⟩ (.string l.key)).setCell ⟨g, k * 3 + 2, none⟩ (.string l.value)) (some g) := by
  obtain ⟨a1, a2⟩ := World.ownsRow.stored h (k * 3) (.string l.table)
  obtain ⟨b1, b2⟩ := World.ownsRow.stored a1 (k * 3 + 1) (.string l.key)
  obtain ⟨c1, c2⟩ := World.ownsRow.stored b1 (k * 3 + 2) (.string l.value)
  refine ⟨?_, grown_trans (grown_trans a2 b2) c2⟩
  unfold RowP
  rw [List.length_set, ← pFlat_put ps k hk]
  exact c1
/-- A table is written over. -/
theorem RowP.table (h : RowP B w (.slice (some ⟨g, 0, none⟩) ps.length cap) ps) {k : Nat} (hk : k < ps.length) (s : ByteArray) :
    RowP B (w.setCell ⟨g, k * 3, none⟩ (.string s)) (.slice (some ⟨g, 0, none⟩) ps.length cap) (ps.set k ⟨s, ps[k].key, ps[k].value⟩) ∧ w.grownBy (w.setCell ⟨g, k * 3, none⟩ (.string s)) (some g) := by
  obtain ⟨a1, a2⟩ := World.ownsRow.stored h (k * 3) (.string s)
  refine ⟨?_, a2⟩
  unfold RowP
  rw [List.length_set, ← pFlat_table ps k hk]
  exact a1
theorem pFlat_value (ls : List PairV) (k : Nat) (hk : k < ls.length) (s : ByteArray) : (pFlat ls).set (k * 3 + 2) (.string s) = pFlat (ls.set k ⟨ls[k].table, ls[k].key, s⟩) := by
  rw [← pFlat_put ls k hk]
  have h0 := pFlat_at ls k hk 0 (by decide)
  have h1 := pFlat_at ls k hk 1 (by decide)
  have hl := pFlat_len ls
  rw [set_same_atP _ (k * 3) _ (by rw [Nat.add_zero] at h0; rw [h0]; rfl), set_same_atP _ (k * 3 + 1) _ (by rw [h1]; rfl)]
/-- A value is written over. -/
theorem RowP.value (h : RowP B w (.slice (some ⟨g, 0, none⟩) ps.length cap) ps) {k : Nat} (hk : k < ps.length) (s : ByteArray) :
    RowP B (w.setCell ⟨g, k * 3 + 2, none⟩ (.string s)) (.slice (some ⟨g, 0, none⟩) ps.length cap) (ps.set k ⟨ps[k].table, ps[k].key, s⟩) ∧ w.grownBy (w.setCell ⟨g, k * 3 + 2, none⟩ (.string s)) (some g) := by
  obtain ⟨a1, a2⟩ := World.ownsRow.stored h (k * 3 + 2) (.string s)
  refine ⟨?_, a2⟩
  unfold RowP
  rw [List.length_set, ← pFlat_value ps k hk]
  exact a1
end
theorem pFlat_take (ps : List PairV) (i : Nat) : (pFlat ps).take (i * 3) = pFlat (ps.take i) := by
  by_cases hi : i ≤ ps.length
  · have h1 : pFlat ps = pFlat (ps.take i) ++ pFlat (ps.drop i) := by rw [← pFlat_append, List.take_append_drop]
    have h2 : (pFlat (ps.take i)).length = i * 3 := by rw [pFlat_len, List.length_take, Nat.min_eq_left hi]
    rw [h1, List.take_left' h2]
  · rw [List.take_of_length_le (by rw [pFlat_len]; omega), List.take_of_length_le (by omega)]
section
variable {w : World} {B g n cap : Nat} {e : TypeId} {size : Nat} {xs : List Value}
theorem ownsRow_cells : ∀ (vs : List Value) (o : Nat) (w : World) (xs : List Value), w.ownsRow B e size (.slice (some ⟨g, 0, none⟩) n cap) n xs →
    ∃ xs', (w.setCells g o vs).ownsRow B e size (.slice (some ⟨g, 0, none⟩) n cap) n xs' ∧ xs'.take o = xs.take o ∧ w.grownBy (w.setCells g o vs) (some g)
  | [], o, w, xs, h => ⟨xs, h, rfl, grown_refl _ _⟩
  | u :: r, o, w, xs, h => by
    obtain ⟨a1, a2⟩ := World.ownsRow.stored h o u
    obtain ⟨xs', b1, b2, b3⟩ := ownsRow_cells r (o + 1) _ _ a1
    refine ⟨xs', b1, ?_, grown_trans a2 b3⟩
    have := congrArg (List.take o) b2
    rw [List.take_take, List.take_take, Nat.min_eq_left (by omega)] at this
    rw [this, List.take_set_of_le (by omega)]
theorem ownsRow_cut (h : w.ownsRow B e size (.slice (some ⟨g, 0, none⟩) n cap) n xs) {m : Nat} (hm : m ≤ n) : w.ownsRow B e size (.slice (some ⟨g, 0, none⟩) m cap) m (xs.take (m * size)) := by
  rcases h.2 with ⟨h', _⟩ | ⟨g', cap', cur, h', hb, hg, hnc, hcm, hcs, htake⟩
  · simp at h'
  · simp only [Value.slice.injEq, Option.some.injEq, Addr.mk.injEq, and_true, true_and] at h'
    obtain ⟨rfl, rfl⟩ := h'
    have hl := h.1
    have hms : m * size ≤ n * size := Nat.mul_le_mul_right _ hm
    refine ⟨by rw [List.length_take, hl, Nat.min_eq_left hms], .inr ⟨g, cap, cur, rfl, hb, hg, Nat.le_trans hm hnc, hcm, hcs, ?_⟩⟩
    rw [← htake, List.take_take, Nat.min_eq_left hms]
end
/-- 'clear(l)' at pairs. -/
theorem clear_run (w : World) (ty : TypeId) (b o n c : Nat) (hn : 0 < n) (hc : ∀ j, j < n * 3 → (w.cell? ⟨b, o + j, none⟩).isSome = true) (hf : ∀ j, j < n * 3 → w.frozen? ⟨b, o + j, none⟩ = false) :
    ∃ L : List Value, (Builtin.clear_ #[37] ty #[.slice (some ⟨b, o, none⟩) n c]).run Tryz.prog w = .ok (.tuple #[]) (w.setCells b o L) := by
  have hv : ∀ w, (zeroValue 51).run Tryz.prog w = .ok (pV zP) w := fun w => by kernel_rfl
  have hlen : (Builtin.zeroCells (pV zP).cells n).toList.length = n * 3 := by simp [Builtin.zeroCells, Value.cells]
  have hone : ∀ v ∈ (Builtin.zeroCells (pV zP).cells n).toList, v.oneCell' = true := by
    intro v hv
    obtain ⟨j, hj, rfl⟩ := List.getElem_of_mem hv
    simp only [Builtin.zeroCells, Value.cells, Array.getElem_toList]
    simp only [Array.getElem_map, Array.getElem_range]
    have h3 : j % 3 = 0 ∨ j % 3 = 1 ∨ j % 3 = 2 := by omega
    rcases h3 with e | e | e <;> simp [e, zP, Value.oneCell']
  have hst := run_storeCells_cells (P := Tryz.prog) b o (Builtin.zeroCells (pV zP).cells n).toList 0 w (by rw [hlen]; simpa using hc) (by rw [hlen]; simpa using hf) hone
  simp only [Nat.add_zero] at hst
  refine ⟨(Builtin.zeroCells (pV zP).cells n).toList, ?_⟩
  obtain ⟨m, rfl⟩ : ∃ m, n = m + 1 := ⟨n - 1, by omega⟩
  simp [Builtin.clear_, run_underlying Tryz.underlying37, hv]
  rw [hst]
  rfl
end Go.Proofs.YticcdighfojjjaaGreatDoor

namespace Go.Proofs.YticcdighfojjjaaGreatDoor
open Go.ChangeShapes Go.WideShapes Go.ChangeAt Go.RowKit

/-! Plainly: what is kept moves to the front. -/
theorem keep_take {f : PairV → Bool} {ps : List PairV} {j : Nat} (hj : j < ps.length) : (ps.take (j + 1)).filter (fun q => !f q) = (ps.take j).filter (fun q => !f q) ++ (if f ps[j] then [] else [ps[j]]) := by
  rw [List.take_succ_eq_append_getElem hj, List.filter_append]
  congr 1
  cases h : f ps[j] <;> simp [h]
/-- Of the first j, the first i places hold what is kept. -/
structure KeptQ (f : PairV → Bool) (ps D : List PairV) (i j : Nat) : Prop where
  len : D.length = ps.length
  head : D.take i = (ps.take j).filter fun q => !f q
  tail : D.drop j = ps.drop j
  cnt : i = ((ps.take j).filter fun q => !f q).length
  lt : i < j
theorem KeptQ.at_ {f : PairV → Bool} {ps D : List PairV} {i j : Nat} (h : KeptQ f ps D i j) (hj : j < ps.length) : D[j]'(by rw [h.len]; exact hj) = ps[j] := by
  have hl := h.len
  have := congrArg (fun l => l[0]?) h.tail
  simp only [List.getElem?_drop, Nat.add_zero] at this
  rw [List.getElem?_eq_getElem (by omega), List.getElem?_eq_getElem hj] at this
  exact Option.some.inj this
theorem KeptQ.skip {f : PairV → Bool} {ps D : List PairV} {i j : Nat} (h : KeptQ f ps D i j) (hj : j < ps.length) (hf : f ps[j] = true) : KeptQ f ps D i (j + 1) := by
  have e := keep_take (f := f) hj
  rw [hf] at e
  simp only [if_true, List.append_nil] at e
  refine ⟨h.len, by rw [e]; exact h.head, ?_, by rw [e]; exact h.cnt, by have := h.lt; omega⟩
  have := congrArg (List.drop 1) h.tail
  rw [List.drop_drop, List.drop_drop] at this
  exact this
theorem KeptQ.keep {f : PairV → Bool} {ps D : List PairV} {i j : Nat} (h : KeptQ f ps D i j) (hj : j < ps.length) (hf : f ps[j] = false) : KeptQ f ps (D.set i ps[j]) (i + 1) (j + 1) := by
  have e := keep_take (f := f) hj
  rw [hf] at e
  simp only [Bool.false_eq_true, if_false] at e
  have hl := h.len
  have hlt := h.lt
  refine ⟨by rw [List.length_set]; exact hl, ?_, ?_, ?_, by omega⟩
  · rw [e, ← h.head, List.take_succ_eq_append_getElem (by rw [List.length_set]; omega), List.take_set_of_le (Nat.le_refl _), List.getElem_set_self]
  · rw [List.drop_set_of_lt (by omega)]
    have := congrArg (List.drop 1) h.tail
    rw [List.drop_drop, List.drop_drop] at this
    exact this
  · rw [e, List.length_append, ← h.cnt]; rfl
theorem KeptQ.start {f : PairV → Bool} {ps : List PairV} {k : Nat} (hk : k < ps.length) (h0 : ∀ j (hj : j < k), f (ps[j]'(Nat.lt_trans hj hk)) = false) (h1 : f ps[k] = true) : KeptQ f ps ps k (k + 1) := by
  have hall : (ps.take k).filter (fun q => !f q) = ps.take k := by
    rw [List.filter_eq_self]
    intro q hq
    obtain ⟨j, hj, rfl⟩ := List.getElem_of_mem hq
    rw [List.length_take] at hj
    rw [List.getElem_take, h0 j (by omega)]; rfl
  have e := keep_take (f := f) hk
  rw [h1, hall] at e
  simp only [if_true, List.append_nil] at e
  exact ⟨rfl, e.symm, rfl, by rw [e, List.length_take, Nat.min_eq_left (Nat.le_of_lt hk)], by omega⟩
theorem idx_cases (f : PairV → Bool) (ps : List PairV) : (idxI f ps = -1 ∧ ps.filter (fun q => !f q) = ps) ∨ ∃ k, ∃ hk : k < ps.length, idxI f ps = (k : Int) ∧ (∀ j (hj : j < k), f (ps[j]'(Nat.lt_trans hj hk)) = false) ∧ f ps[k] = true := by
  cases h : ps.any f with
  | false =>
    refine .inl ⟨by unfold idxI; rw [h]; rfl, ?_⟩
    rw [List.filter_eq_self]
    intro q hq
    have := List.any_eq_false.1 h q hq
    simpa using this
  | true =>
    have hx : ∀ l : List PairV, l.any f = true → ∃ k, ∃ hk : k < l.length, (∀ j (hj : j < k), f (l[j]'(Nat.lt_trans hj hk)) = false) ∧ f l[k] = true := by
      intro l
      induction l with
      | nil => intro h; cases h
      | cons q r ih =>
        intro h
        cases hq : f q with
        | true => exact ⟨0, by simp, fun j hj => by omega, hq⟩
        | false =>
          rw [List.any_cons, hq, Bool.false_or] at h
          obtain ⟨k, hk, h1, h2⟩ := ih h
          refine ⟨k + 1, by simpa using hk, fun j hj => ?_, h2⟩
          cases j with
          | zero => exact hq
          | succ j => exact h1 j (by omega)
    obtain ⟨k, hk, h1, h2⟩ := hx ps h
    exact .inr ⟨k, hk, idx_some hk h1 h2, h1, h2⟩
/-- What is asked of a predicate of pairs, wherever the row is written into. -/
def PredR (g : FuncId) (lb : Array Value) (f : PairV → Bool) (w : World) (row : Option Nat) : Prop := ∀ (W : World) (p : PairV), w.grownBy W row → Calls Tryz.prog g (#[pV p] ++ lb) W fun e w' => e = .returned (.bool (f p)) ∧ w' = W.alloc (pO p)
set_option maxHeartbeats 6400000 in
set_option maxRecDepth 100000 in
theorem delete_any (ps : List PairV) (B : Nat) (v : Value) (g : FuncId) (lb : Array Value) (f : PairV → Bool) (w : World) (h : RowP B w v ps) (hl : ps.length ≤ 2147483647)
    (eg : ∀ args w, (callFunc g args).run Tryz.prog w = .ok (.enter g args) w) (hp : PredR g lb f w v.ownBlock) :
    Calls Tryz.prog 80 #[v, .func (.func g) #[] lb] w fun e w' => ∃ v', e = .returned v' ∧ RowP B w' v' (ps.filter fun q => !f q) ∧ w.grownBy w' v.ownBlock ∧ v'.ownBlock = v.ownBlock := by
  obtain ⟨x, c, hv, hpr⟩ := h.prs
  have HI := Lib.hid (index_any ps x ps.length c g lb f w hpr rfl hl eg fun W p hb => hp W p (grown_below hb _))
  rw [← hv] at HI
  clear hpr
  rcases idx_cases f ps with ⟨e1, e2⟩ | ⟨k, hk, e1, h0, h1⟩
  · rw [e1] at HI
    rw [e2]
    have HR := Lib.hid h
    clear e1 e2 hp h eg hl
    subst hv
    go_enter Tryz.func80, Tryz.ntmps80
    go_wp2_with (go_at_call 105; refine HI.out.mono ?_; rintro e w2 ⟨rfl, hb⟩; have HB := Lib.hid hb; clear hb)
    go_ret
    exact ⟨_, rfl, HR.out.below HB.out, grown_below HB.out _, rfl⟩
  · rw [e1] at HI
    have HS := KeptQ.start hk h0 h1
    have HFIN : Hid (∀ D i, KeptQ f ps D i ps.length → D.take i = ps.filter (fun q => !f q) ∧ i = (ps.filter (fun q => !f q)).length) := Lib.hid fun D i hK => by
      have a := hK.head
      have b := hK.cnt
      rw [List.take_length] at a b
      exact ⟨a, b⟩
    generalize ps.filter (fun q => !f q) = R at HFIN ⊢
    rcases h.shape with ⟨rfl, rfl⟩ | ⟨G, cap, rfl, hcap, hBG, hGlt⟩
    · simp at hk
    have HR := Lib.hid h
    have HP := Lib.hid hp
    have HST := Lib.hid HS
    have HL := Lib.hid (show ((ps.length : Nat) : Int) = ps.length from rfl)
    have q0 : ((k : Int) == -1) = false := beq_eq_false_iff_ne.2 (by omega)
    have HPL : Hid (ps.length ≤ 2147483647) := Lib.hid hl
    clear h hp HS e1 h0 h1 hv HL
    obtain ⟨n, hn⟩ : ∃ n, n = ps.length := ⟨_, rfl⟩
    rw [← hn] at hk hl hcap HI ⊢
    have HN := Lib.hid hn
    clear hn
    go_enter Tryz.func80, Tryz.ntmps80
    go_wp2_with (go_at_call 105; refine HI.out.mono ?_; rintro e w1 ⟨rfl, hb⟩; have HB := Lib.hid hb; clear hb)
    go_loopw [5, 6, 7] (fun a b _ wr => ∃ i j : Nat, a = .int .i64 i ∧ b = .int .i64 j ∧ j ≤ n ∧ i < j ∧ Hid (∃ D, KeptQ f ps D i j ∧ RowP B wr (.slice (some ⟨G, 0, none⟩) n cap) D ∧ w.grownBy wr (some G))) (fun _ b _ _ => n - (intOf b).toNat)
    case atStart => exact ⟨k, k + 1, rfl, by go_num, by omega, by omega, Lib.hid ⟨ps, HST.out, by rw [HN.out]; exact HR.out.below HB.out, grown_below HB.out _⟩⟩
    case round =>
      obtain ⟨i, j, rfl, rfl, hj, hij, HD⟩ := hrel
      by_cases hlt : j < n
      · obtain ⟨D, hK, hD, hG⟩ := HD.out
        have hDn : n = D.length := by rw [HN.out]; exact hK.len.symm
        have hjp : j < ps.length := by rw [← HN.out]; exact hlt
        have hq := hK.at_ hjp
        subst hDn
        obtain ⟨c0, c1, c2⟩ := hD.cells hlt
        rw [hq] at c0 c1 c2
        have hGw := (hD.lt (k := G) rfl).2
        have hne : ¬ wr.heap.size = G := by omega
        have q1 : (0 : Int) ≤ j := by omega
        have q2 : (j : Int) < D.length := by omega
        have q3 : (0 : Int) ≤ i := by omega
        have q4 : (i : Int) < D.length := by omega
        have HC0 := HP.out (wr.alloc (pO ps[j])) ps[j] (grown_trans hG (World.grownBy_alloc _ _ _))
        have HSK : Hid (f ps[j] = true → KeptQ f ps D i (j + 1)) := Lib.hid fun h => hK.skip hjp h
        have HKP : Hid (f ps[j] = false → KeptQ f ps (D.set i ps[j]) (i + 1) (j + 1)) := Lib.hid fun h => hK.keep hjp h
        have hiD : i < D.length := by omega
        have HC : Hid (Calls Tryz.prog g (#[pV ps[j]] ++ lb) (wr.alloc (pO ps[j])) fun e w2 => e = .returned (.bool (f ps[j])) ∧ (w2.cell? ⟨wr.heap.size, 0, none⟩ = some (.string ps[j].table) ∧ w2.cell? ⟨wr.heap.size, 1, none⟩ = some (.string ps[j].key) ∧ w2.cell? ⟨wr.heap.size, 2, none⟩ = some (.string ps[j].value)) ∧
            (∃ a b d, w2.cell? ⟨G, i * 3, none⟩ = some a ∧ w2.cell? ⟨G, i * 3 + 1, none⟩ = some b ∧ w2.cell? ⟨G, i * 3 + 2, none⟩ = some d) ∧ (∀ r, w2.frozen? ⟨G, r, none⟩ = false) ∧ RowP B w2 (.slice (some ⟨G, 0, none⟩) D.length cap) D ∧ w.grownBy w2 (some G)) := Lib.hid (HC0.mono fun e w2 ⟨h1, h2⟩ => by
          subst h2
          have hr := (hD.alloc (pO ps[j])).alloc (pO ps[j])
          obtain ⟨a, b, d⟩ := hr.cells hiD
          have hnew : ∀ r v, #[Value.string ps[j].table, .string ps[j].key, .string ps[j].value][r]? = some v → ((wr.alloc (pO ps[j])).alloc (pO ps[j])).cell? ⟨wr.heap.size, r, none⟩ = some v := fun r v hv => Lib.cell?_alloc_some _ (by rw [cell_of_row _ _ r _ _ _ (heap_alloc_new wr _)]; exact hv)
          exact ⟨h1, ⟨hnew 0 _ rfl, hnew 1 _ rfl, hnew 2 _ rfl⟩, ⟨_, _, _, a, b, d⟩, fun r => hr.free r, hr, grown_trans hG (grown_trans (World.grownBy_alloc _ _ _) (World.grownBy_alloc _ _ _))⟩)
        generalize ps[j] = q at c0 c1 c2 HC HSK HKP
        obtain ⟨qt, qk, qv⟩ := q
        dsimp only at c0 c1 c2 HC HSK HKP
        unfold pV pO at HC
        dsimp only at HC
        clear hK hD hG hq hjp HD HC0
        cases hv : f ⟨qt, qk, qv⟩ with
        | true =>
          rw [hv] at HC HSK
          clear hv
          go_wp2_with (go_at_fn g; refine HC.out.mono ?_; rintro e w2 ⟨rfl, _, _, _, hR2, hG2⟩; have HRG := Lib.hid (And.intro hR2 hG2); clear hR2 hG2)
          go_roundw
          case rel => exact ⟨i, j + 1, rfl, by go_num, by omega, by omega, Lib.hid ⟨D, HSK.out (by simp), HRG.out.1, HRG.out.2⟩⟩
          case measure => simp [intOf]; omega
        | false =>
          rw [hv] at HC HKP
          clear hv
          go_wp2_with (go_at_fn g; refine HC.out.mono ?_; rintro e w2 ⟨rfl, ⟨d0, d1, d2⟩, ⟨a0, a1, a2, e0, e1, e2⟩, ez, hR2, hG2⟩; have z0 := ez (i * 3); have z1 := ez (i * 3 + 1); have z2 := ez (i * 3 + 2); have HPUT := Lib.hid (hR2.put hiD ⟨qt, qk, qv⟩); have HG2 := Lib.hid hG2; clear hR2 hG2 ez)
          go_roundw
          case rel => exact ⟨i + 1, j + 1, by go_num, by go_num, by omega, by omega, Lib.hid ⟨D.set i ⟨qt, qk, qv⟩, HKP.out (by simp), HPUT.out.1, grown_trans HG2.out HPUT.out.2⟩⟩
          case measure => simp [intOf]; omega
      · obtain rfl : j = n := by omega
        obtain ⟨D, hK, hD, hG⟩ := HD.out
        have hDn : j = D.length := by rw [HN.out]; exact hK.len.symm
        subst hDn
        obtain ⟨hT, hR⟩ := HFIN.out D i (HN.out ▸ hK)
        have q1 : (0 : Int) ≤ i := by omega
        have q2 : (i : Int) ≤ D.length := by omega
        have q3 : ¬ (D.length : Int) < D.length := by omega
        obtain ⟨L, hcl⟩ : ∃ L, ∀ ty, (Builtin.clear_ #[37] ty #[.slice (some ⟨G, i * 3, none⟩) (D.length - i) (cap - i)]).run Tryz.prog wr = .ok (.tuple #[]) (wr.setCells G (i * 3) L) := by
          obtain ⟨L, hL⟩ := clear_run wr 37 G (i * 3) (D.length - i) (cap - i) (by omega) (fun r hr => by
            have h' : wr.ownsRow B 51 3 (.slice (some ⟨G, 0, none⟩) D.length cap) D.length (pFlat D) := hD
            rw [h'.cellAt (i * 3 + r) (by omega), List.getElem?_eq_getElem (by rw [pFlat_len]; omega)]; rfl) (fun r _ => hD.free _)
          exact ⟨L, fun ty => hL⟩
        obtain ⟨xs', o1, o2, o3⟩ := ownsRow_cells L (i * 3) wr (pFlat D) hD
        have o4 := ownsRow_cut o1 (Nat.le_of_lt hij)
        rw [o2, pFlat_take, hT] at o4
        have HE : Hid (RowP B (wr.setCells G (i * 3) L) (.slice (some ⟨G, 0, none⟩) i cap) R ∧ w.grownBy (wr.setCells G (i * 3) L) (some G)) := Lib.hid ⟨by unfold RowP; rw [← hR]; exact o4, grown_trans hG o3⟩
        clear hK hD hG hT hR o1 o2 o3 o4 HD
        go_wp2
        go_ret
        exact ⟨_, rfl, HE.out.1, HE.out.2, rfl⟩
end Go.Proofs.YticcdighfojjjaaGreatDoor

namespace Go.Proofs.YticcdighfojjjaaGreatDoor
open Go.ChangeShapes Go.WideShapes Go.ChangeAt Go.RowKit

/-- What a change of a row of a call's own answers: the row lies where it lay, or is new; no other block turns. -/
def ChgRes (B : Nat) (w : World) (v : Value) (r : List PairV × Int) (e : Ending) (w' : World) : Prop :=
  ∃ v', e = .returned (.tuple #[v', .int .i64 r.2]) ∧ RowP B w' v' r.1 ∧ w.grownBy w' v.ownBlock ∧ ∀ y, v'.ownBlock = some y → v.ownBlock = some y ∨ w.heap.size ≤ y
/-- A step's block. -/
abbrev sO (s : StepV) : Obj := .cells #[.int .i64 s.kind, .string s.table, .string s.key, .string s.to, .string s.text] 35
theorem box_cell (w : World) (s : StepV) (r : Nat) (u : Value) (hu : #[Value.int .i64 s.kind, .string s.table, .string s.key, .string s.to, .string s.text][r]? = some u) : (w.alloc (sO s)).cell? ⟨w.heap.size, r, none⟩ = some u := by
  rw [cell_of_row _ _ r _ _ _ (heap_alloc_new w _)]; exact hu
theorem own_lt {B : Nat} {w : World} {v : Value} {ps : List PairV} (h : RowP B w v ps) {y : Nat} (hy : w.heap.size ≤ y) : v.ownBlock ≠ some y := fun e => by have := (h.lt e).2; omega
theorem pdropped_any (ps : List PairV) (B : Nat) (v : Value) (s : StepV) (w : World) (h : RowP B w v ps) (hl : ps.length ≤ 2147483647) :
    Calls Tryz.prog 56 #[v, sV s] w fun e w' => ∃ v', e = .returned v' ∧ RowP B w' v' (dropP ps s.table s.key) ∧ w.grownBy w' v.ownBlock ∧ v'.ownBlock = v.ownBlock := by
  have eg : ∀ args w, (callFunc 81 args).run Tryz.prog w = .ok (.enter 81 args) w := enters_of Tryz.func81 (by kernel_rfl) rfl
  have HD : Hid (Calls Tryz.prog 80 #[v, .func (.func 81) #[] #[.pointer (some ⟨w.heap.size, 0, none⟩)]] (w.alloc (sO s)) fun e w' => ∃ v', e = .returned v' ∧ RowP B w' v' (dropP ps s.table s.key) ∧ w.grownBy w' v.ownBlock ∧ v'.ownBlock = v.ownBlock) := Lib.hid (by
    have hf : (ps.filter fun q => !(!keepP s.table s.key q)) = dropP ps s.table s.key := by unfold dropP; exact List.filter_congr fun q _ => by simp
    refine (delete_any ps B v _ _ (fun q => !keepP s.table s.key q) (w.alloc (sO s)) (h.alloc _) hl eg fun W p hb => ?_).mono fun e w' ⟨v', h1, h2, h3, h4⟩ => ⟨v', h1, by rw [← hf]; exact h2, grown_trans (World.grownBy_alloc _ _ _) h3, h4⟩
    have hbl : W.heap[w.heap.size]? = (w.alloc (sO s)).heap[w.heap.size]? := hb.block _ (by simp) (fun e => own_lt h (Nat.le_refl _) e.symm)
    exact dropP_any p s.table s.key W w.heap.size (by rw [World.cell?_of_block (a := ⟨w.heap.size, 1, none⟩) hbl]; exact box_cell w s 1 _ rfl) (by rw [World.cell?_of_block (a := ⟨w.heap.size, 2, none⟩) hbl]; exact box_cell w s 2 _ rfl))
  clear h hl eg
  obtain ⟨kd, tb, ky, to, tx⟩ := s
  unfold sO at HD
  unfold sV
  dsimp only at HD ⊢
  generalize dropP ps tb ky = R at HD ⊢
  go_enter Tryz.func56, Tryz.ntmps56
  go_wp2_with (go_at_call 80; refine HD.out.mono ?_; rintro e w2 ⟨v', rfl, h1, h2, h3⟩; have HR := Lib.hid (And.intro h1 (And.intro h2 h3)); clear h1 h2 h3)
  go_ret
  exact ⟨_, rfl, HR.out.1, HR.out.2.1, HR.out.2.2⟩
/-- One more in a row of a call's own. -/
theorem appendR {ops : Array Oper} {rest : List Oper} {o : Oper} {a : Act} {Q : Exit → Act → World → Prop} (hgd : o.guard = none) (s x : Operand)
    (ho : o.op = .call { callee := .builtin .append, args := #[s, x], argTypes := #[37, 37] }) {B : Nat} {w : World} {v : Value} {t k u : ByteArray} {ps : List PairV} (hown : RowP B w v ps) (hB : B ≤ w.heap.size) (hn : ps.length ≤ 10000000000) (hs : a.eval s = v)
    {c g : Nat} (hx : a.eval x = .slice (some ⟨g, 0, none⟩) 1 c) (hg : g = w.heap.size)
    (h : ∀ y cap w', RowP B w' (.slice (some ⟨y, 0, none⟩) (ps.length + 1) cap) (ps ++ [⟨t, k, u⟩]) → w.grownBy w' v.ownBlock → (v.ownBlock = some y ∨ w.heap.size ≤ y) → wpList Tryz.prog ops Q rest (a.put o.dst (.slice (some ⟨y, 0, none⟩) (ps.length + 1) cap)) w') :
    wpList Tryz.prog ops Q (o :: rest) a (w.alloc (Obj.cells #[.string t, .string k, .string u] 51)) := by
  subst hg
  obtain ⟨i0, hi, hz0, hz1, hz2⟩ := info_parts infoPr
  refine wpList_append_lies _ hgd s x _ ho B 51 i0 _ 3 48 Tryz.underlying37 hi hz0 hz1 hz2 rfl (by decide) v ps.length (pFlat ps) hs (World.ownsRow.alloc hown _) ⟨w.heap.size, 0, none⟩ 1 c (pCells ⟨t, k, u⟩) hx rfl (World.news_of_block (heap_alloc_new w _)) (pCells_one _) (by decide) (by unfold maxLen; omega) (by omega) (Nat.le_trans hB (by simp)) _ rfl ?_
  intro y cap w1 h1 h2 h3 _
  refine h y cap w1 ?_ (grown_trans (World.grownBy_alloc _ _ _) h2) (h3.imp id fun h3 => by rw [h3]; simp)
  unfold RowP
  rw [List.length_append, List.length_singleton, pFlat_append, pFlat_one']
  exact h1
theorem findI_ge (ps : List PairV) (t k : ByteArray) : decide (0 ≤ findI ps t k) = hasP ps t k := by
  unfold findI
  cases h : hasP ps t k
  · rfl
  · simp
set_option maxRecDepth 100000 in
theorem pput_any (ps : List PairV) (B : Nat) (v : Value) (p : PairV) (w : World) (h : RowP B w v ps) (hB : B ≤ w.heap.size) (hl : ps.length ≤ 1000000000) :
    Calls Tryz.prog 55 #[v, pV p] w (ChgRes B w v (putQ ps p)) := by
  obtain ⟨x, c, hv, hpr⟩ := h.prs
  have hbw := below_one w (pO p)
  have HF := Lib.hid (pfind_any ps x ps.length c p.table p.key (w.alloc (pO p)) (hpr.below hbw) rfl (by omega))
  rw [← hv] at HF
  have hge := findI_ge ps p.table p.key
  have HFR : Hid (∀ w', Below (w.alloc (pO p)).heap.size (w.alloc (pO p)) w' → w'.cell? ⟨w.heap.size, 0, none⟩ = some (.string p.table) ∧ w'.cell? ⟨w.heap.size, 1, none⟩ = some (.string p.key) ∧ w'.cell? ⟨w.heap.size, 2, none⟩ = some (.string p.value) ∧ RowP B w' v ps ∧ w.grownBy w' v.ownBlock ∧ B ≤ w'.heap.size ∧ w.heap.size ≤ w'.heap.size) := Lib.hid fun w' hb => by
    have hlt : w.heap.size < (w.alloc (pO p)).heap.size := by simp
    have hc : ∀ r u, #[Value.string p.table, .string p.key, .string p.value][r]? = some u → w'.cell? ⟨w.heap.size, r, none⟩ = some u := fun r u hu => by
      rw [hb.cell (p := ⟨w.heap.size, r, none⟩) hlt, cell_of_row _ _ r _ _ _ (heap_alloc_new w _)]; exact hu
    have hb2 := hbw.trans (hb.mono hbw.size)
    exact ⟨hc 0 _ rfl, hc 1 _ rfl, hc 2 _ rfl, h.below hb2, grown_below hb2 _, Nat.le_trans hB hb2.size, hb2.size⟩
  unfold putQ
  have HL := Lib.hid hl
  subst hv
  clear h hpr hbw hB hl
  obtain ⟨tb, ky, vl⟩ := p
  unfold pO at HF HFR
  unfold pV
  dsimp only at HF HFR hge ⊢
  cases hh : hasP ps tb ky with
  | true =>
    rw [hh] at hge
    rw [if_pos rfl]
    clear hh
    generalize findI ps tb ky = i at HF hge
    go_enter Tryz.func55, Tryz.ntmps55
    go_wp2_with (go_at_call 79; refine HF.out.mono ?_; rintro e w2 ⟨rfl, hb⟩; have HX := Lib.hid (HFR.out _ hb); clear hb)
    go_ret2
    exact ⟨_, rfl, RowP.nil_ _ _, HX.out.2.2.2.2.1, fun y hy => by simp [Value.ownBlock] at hy⟩
  | false =>
    rw [hh] at hge
    rw [if_neg (by simp)]
    clear hh
    generalize findI ps tb ky = i at HF hge
    go_enter Tryz.func55, Tryz.ntmps55
    go_wp2_with (first
      | (go_at_call 79; refine HF.out.mono ?_; rintro e w2 ⟨rfl, hb⟩; obtain ⟨d0, d1, d2, hR, hG, hB2, hz⟩ := HFR.out _ hb; have HR := Lib.hid hR; have HG := Lib.hid hG; have HB2 := Lib.hid hB2; have HZ := Lib.hid hz; clear hb hR hG hB2 hz)
      | (at_builtin; refine appendR rfl _ _ rfl HR.out HB2.out (by have := HL.out; omega) rfl rfl rfl ?_; intro y cap w3 h1 h2 h3; have H1 := Lib.hid (And.intro h1 (And.intro h2 h3)); clear h1 h2 h3))
    go_ret2
    refine ⟨_, rfl, ?_, grown_trans HG.out H1.out.2.1, fun y' hy => ?_⟩
    · exact H1.out.1
    · simp [Value.ownBlock] at hy
      subst hy
      exact H1.out.2.2.imp id fun h => Nat.le_trans HZ.out h
theorem ChgRes.lift {B : Nat} {w w1 : World} {v : Value} {r : List PairV × Int} {e : Ending} {w' : World} (h : ChgRes B w1 v r e w') (hg : w.grownBy w1 v.ownBlock) : ChgRes B w v r e w' := by
  obtain ⟨v', h1, h2, h3, h4⟩ := h
  exact ⟨v', h1, h2, grown_trans hg h3, fun y hy => (h4 y hy).imp id fun h => Nat.le_trans hg.size h⟩
/-- What a round of a change keeps. -/
structure Kp2 (B : Nat) (w : World) (v : Value) (ps : List PairV) (W : World) : Prop where
  row : RowP B W v ps
  grown : w.grownBy W v.ownBlock
  base : B ≤ W.heap.size
theorem Kp2.drew {B : Nat} {w : World} {v : Value} {ps : List PairV} {W : World} (h : Kp2 B w v ps W) : Kp2 B w v ps W.drew := ⟨h.row, ⟨h.grown.os, h.grown.tape, h.grown.output, h.grown.size, h.grown.block⟩, h.base⟩
theorem Kp2.below {B : Nat} {w : World} {v : Value} {ps : List PairV} {W W' : World} (h : Kp2 B w v ps W) (hb : Below W.heap.size W W') : Kp2 B w v ps W' := ⟨h.row.below hb, grown_trans h.grown (grown_below hb _), Nat.le_trans h.base hb.size⟩
set_option maxHeartbeats 800000 in
set_option maxRecDepth 100000 in
theorem pcopied_any (ps : List PairV) (B : Nat) (v : Value) (s : StepV) (w : World) (h : RowP B w v ps) (hB : B ≤ w.heap.size) (hl : ps.length ≤ 1000000000) :
    Calls Tryz.prog 60 #[v, sV s] w (ChgRes B w v (copyQ ps s)) := by
  obtain ⟨x, c, hv, hpr⟩ := h.prs
  have hbw := below_one w (sO s)
  have HF := Lib.hid (pfind_any ps x ps.length c s.table s.key (w.alloc (sO s)) (hpr.below hbw) rfl (by omega))
  rw [← hv] at HF
  have hK0 : Kp2 B w v ps w := ⟨h, grown_refl _ _, hB⟩
  have HFR : Hid (∀ w', Below (w.alloc (sO s)).heap.size (w.alloc (sO s)) w' → w'.cell? ⟨w.heap.size, 1, none⟩ = some (.string s.table) ∧ w'.cell? ⟨w.heap.size, 3, none⟩ = some (.string s.to) ∧ Kp2 B w v ps w') := Lib.hid fun w' hb => by
    have hlt : w.heap.size < (w.alloc (sO s)).heap.size := by simp
    have hc : ∀ r u, #[Value.int .i64 s.kind, .string s.table, .string s.key, .string s.to, .string s.text][r]? = some u → w'.cell? ⟨w.heap.size, r, none⟩ = some u := fun r u hu => by
      rw [hb.cell (p := ⟨w.heap.size, r, none⟩) hlt]; exact box_cell w s r u hu
    exact ⟨hc 1 _ rfl, hc 3 _ rfl, hK0.below (hbw.trans (hb.mono hbw.size))⟩
  have HP : Hid (∀ W p, Kp2 B w v ps W → Calls Tryz.prog 55 #[v, pV p] W (ChgRes B w v (putQ ps p))) := Lib.hid fun W p hK => (pput_any ps B v p W hK.row hK.base hl).mono fun e w' hr => hr.lift hK.grown
  have HRW : Hid (∀ W k (hk : k < ps.length), Kp2 B w v ps W → ∃ g cap, v = .slice (some ⟨g, 0, none⟩) ps.length cap ∧ W.cell? ⟨g, k * 3 + 2, none⟩ = some (.string ps[k].value)) := Lib.hid fun W k hk hK => by
    rcases hK.row.shape with ⟨_, rfl⟩ | ⟨g, cap, rfl, _, _, _⟩
    · simp at hk
    · exact ⟨g, cap, rfl, (hK.row.cells hk).2.2⟩
  have HPL : Hid (posP ps s.table s.key < ps.length ↔ hasP ps s.table s.key = true) := Lib.hid posP_lt
  unfold copyQ
  have hK0' := Lib.hid hK0
  clear h hpr hbw hB hK0
  obtain ⟨kd, tb, ky, to, tx⟩ := s
  unfold sO at HF HFR
  unfold sV
  dsimp only at HF HFR HPL ⊢
  cases hh : hasP ps tb ky with
  | false =>
    have hn : ¬ posP ps tb ky < ps.length := fun h => by rw [HPL.out.1 h] at hh; cases hh
    rw [dif_neg hn]
    rw [find_no hh] at HF
    clear hh hn HPL
    subst hv
    have q1 : (-1 : Int) < 0 := by omega
    go_enter Tryz.func60, Tryz.ntmps60
    go_wp2_with (go_at_call 79; refine HF.out.mono ?_; rintro e w2 ⟨rfl, hb⟩; have HX := Lib.hid (HFR.out _ hb); clear hb)
    go_ret2
    exact ⟨_, rfl, HX.out.2.2.row, HX.out.2.2.grown, fun y hy => .inl hy⟩
  | true =>
    have hn : posP ps tb ky < ps.length := HPL.out.2 hh
    rw [dif_pos hn]
    rw [find_yes hh] at HF
    clear hh HPL
    obtain ⟨g, cap, hv2, hc0⟩ := HRW.out w _ hn hK0'.out
    have HV := Lib.hid hv2
    have HCV : Hid (∀ W, Kp2 B w v ps W → W.cell? ⟨g, posP ps tb ky * 3 + 2, none⟩ = some (.string ps[posP ps tb ky].value)) := Lib.hid fun W hK => by
      obtain ⟨g', cap', e, hc⟩ := HRW.out W _ hn hK
      rw [hv2] at e
      injection e with e1 _ _
      have e1 : g = g' := by simpa using e1
      subst e1; exact hc
    clear hc0 hv HRW hK0'
    subst hv2
    generalize ps[posP ps tb ky].value = vl at HCV ⊢
    have HPP := Lib.hid (fun W => HP.out W ⟨tb, to, vl⟩)
    generalize putQ ps ⟨tb, to, vl⟩ = R at HPP ⊢
    generalize posP ps tb ky = i at HF HCV hn
    have q1 : ¬ (i : Int) < 0 := by omega
    have q2 : (0 : Int) ≤ i := by omega
    have q3 : (i : Int) < ps.length := by omega
    unfold pV at HPP
    dsimp only at HPP
    clear HP
    go_enter Tryz.func60, Tryz.ntmps60
    go_wp2_with (go_at_call 79; refine HF.out.mono ?_; rintro e w2 ⟨rfl, hb⟩; obtain ⟨d1, d3, hK⟩ := HFR.out _ hb; have d2 := HCV.out _ hK; have HK := Lib.hid hK; clear hb hK)
    go_region_law (first
      | (go_simp; (with_reducible refine (HPP.out _ (by first | assumption | exact HK.out.drew | exact HK.out)).mono ?_); rintro e w3 ⟨v', rfl, h1, h2, h3⟩; have HE := Lib.hid (And.intro h1 (And.intro h2 h3)); clear h1 h2 h3; dsimp only)
      | fail)
    all_goals
      go_wp2
      go_ret2
      exact ⟨_, rfl, HE.out.1, HE.out.2.1, HE.out.2.2⟩
end Go.Proofs.YticcdighfojjjaaGreatDoor
