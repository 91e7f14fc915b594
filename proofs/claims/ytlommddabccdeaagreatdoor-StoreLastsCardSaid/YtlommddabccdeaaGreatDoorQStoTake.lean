/-
  StoTake.
-/
import Derived.Test.YtlommddabccdeaaGreatDoorQStoRdc
namespace Go.Proofs.YtlommddabccdeaaGreatDoor
open Go.ChangeShapes Go.WideShapes Go.ChangeAt Go.RowKit

def rowOfC (says : Nat) (c : ChgV) : List UInt8 := txL c.t ++ (txL c.k ++ conL says c.v)
structure TakeOk (base : List PairV) (cs : List ChgV) (says : Nat) (first : Bool) : Prop where
 ok : ∀ c ∈ cs, okC c = true
 rise : RiseC cs
 does : ∀ c ∈ cs, Does base c
 most : (allB base cs).length ≤ 500
 beg : (says = 0 ∧ cs ≠ []) ∨ (says = 1 ∧ first = true ∧ ∀ c ∈ cs, c.v.isSome = true)
 len : (rowL says ++ cs.flatMap (rowOfC says)).length ≤ 60000
 bs : Rise base
 few : base.length ≤ 500
def lastP (cs : List ChgV) : Nat → Plc
 | 0 => (emB, emB)
 | i + 1 => match cs[i]? with
  | some c => (c.t, c.k)
  | none => (emB, emB)
theorem lastP_succ (cs : List ChgV) (i : Nat) (h : i < cs.length) : lastP cs (i + 1) = (cs[i].t, cs[i].k) := by
 simp only [lastP, List.getElem?_eq_getElem h]
def restC (says : Nat) (cs : List ChgV) (i : Nat) : List UInt8 := (cs.drop i).flatMap (rowOfC says)
theorem restC_at (says : Nat) (cs : List ChgV) (i : Nat) (h : i < cs.length) : restC says cs i = txL cs[i].t ++ (txL cs[i].k ++ (conL says cs[i].v ++ restC says cs (i + 1))) := by
 unfold restC
 rw [List.drop_eq_getElem_cons h, List.flatMap_cons]
 simp only [rowOfC, List.append_assoc]
theorem restC_end (says : Nat) (cs : List ChgV) : restC says cs cs.length = [] := by unfold restC; rw [List.drop_length]; rfl
theorem restC_len (says : Nat) (cs : List ChgV) (i : Nat) : (restC says cs i).length ≤ (cs.flatMap (rowOfC says)).length := by
 have e : cs.flatMap (rowOfC says) = (cs.take i).flatMap (rowOfC says) ++ restC says cs i := by
  unfold restC
  rw [← List.flatMap_append, List.take_append_drop]
 rw [e, List.length_append]; omega
theorem txL_pos (s : ByteArray) : 0 < (txL s).length := by
 unfold txL
 rw [List.length_append]
 have := rowL_pos s.data.toList.length
 omega
theorem okC_sizes {c : ChgV} (h : okC c = true) : c.t.size ≤ 32 ∧ c.k.size ≤ 32 ∧ (c.v.getD emB).size ≤ 200 := okP_sizes h
theorem cmpL_m1 : ∀ a b : List UInt8, Lib.compareBytes a b < 0 → Lib.compareBytes a b = -1
 | [], [], h => absurd h (by simp [Lib.compareBytes])
 | [], _ :: _, _ => rfl
 | _ :: _, [], h => absurd h (by simp [Lib.compareBytes])
 | x :: a, y :: b, h => by
  unfold Lib.compareBytes at h ⊢
  split
  ·rfl
  ·rename_i h1
   rw [if_neg h1] at h
   split
   ·rename_i h2; rw [if_pos h2] at h; exact absurd h (by decide)
   ·rename_i h2; rw [if_neg h2] at h; exact cmpL_m1 a b h
theorem cmpPl_m1 {x y : Plc} (h : cmpPl x y < 0) : cmpPl x y = -1 := by
 unfold cmpPl at h ⊢
 split
 ·rename_i h1; rw [if_pos h1] at h; exact cmpL_m1 _ _ h
 ·rename_i h1; rw [if_neg h1] at h; exact cmpL_m1 _ _ h
theorem lastP_less {cs : List ChgV} (hr : RiseC cs) (ho : ∀ c ∈ cs, okC c = true) (i : Nat) (h : i < cs.length) : cmpPl (lastP cs i) (cs[i].t, cs[i].k) < 0 := by
 rw [cmpPl_lt]
 cases i with
 | zero =>
  have h1 := ho cs[0] (List.getElem_mem h)
  unfold lessP lastP plP
  have h2 : ltB emB cs[0].t = true := by
   unfold okC okP at h1
   simp only [Bool.and_eq_true] at h1
   have h3 := h1.1.1
   unfold ltB
   rw [Lib.toList_data, Lib.toList_data]
   cases hx : cs[0].t.data.toList with
   | nil => rw [hx] at h3; simp [wordB] at h3
   | cons a l => rfl
  rw [h2]; rfl
 | succ i =>
  rw [lastP_succ cs i (by omega)]
  have := (List.pairwise_iff_getElem.1 hr) i (i + 1) (by omega) h (by omega)
  exact this
theorem look_take {base : List PairV} {cs : List ChgV} (hb : Rise base) (hr : RiseC cs) (i : Nat) (h : i < cs.length) : lookP (allB base (cs.take i)) cs[i].t cs[i].k = lookP base cs[i].t cs[i].k := by
 rw [look_allB _ hb, chgOf_none]
 ·rfl
 ·intro c hc e
  obtain ⟨j, hj, rfl⟩ := List.mem_iff_getElem.1 hc
  have hj2 : j < i := by rw [List.length_take] at hj; omega
  rw [List.getElem_take] at e
  have := (List.pairwise_iff_getElem.1 hr) j i (by omega) h hj2
  unfold lessC at this
  rw [← e.1, ← e.2, lessP_irrefl] at this
  cases this
theorem allB_take_succ {base : List PairV} {cs : List ChgV} (i : Nat) (h : i < cs.length) : allB base (cs.take (i + 1)) = behindL (allB base (cs.take i)) cs[i].t cs[i].k cs[i].v := by
 rw [List.take_add_one, List.getElem?_eq_getElem h, Option.toList_some, allB_append]
 rfl
theorem comF_behind {l : List PairV} (hl : Rise l) (t k : ByteArray) (v : Option ByteArray) : ∀ t' k', updK (comF l) t k (v.map fun v => conV (some v)) t' k' = comF (behindL l t k v) t' k' := by
 intro t' k'
 unfold updK comF
 rw [look_behind hl]
 by_cases e : t' = t ∧ k' = k
 ·rw [if_pos e, if_pos e]
 ·rw [if_neg e, if_neg e]
theorem comF_getD (l : List PairV) (t k : ByteArray) : (comF l t k).getD (conV none) = conV (lookP l t k) := by
 unfold comF
 cases lookP l t k <;> rfl
theorem flat_ge (says : Nat) : ∀ cs : List ChgV, cs.length ≤ (cs.flatMap (rowOfC says)).length
 | [] => Nat.zero_le _
 | c :: cs => by
  rw [List.flatMap_cons, List.length_append, List.length_cons]
  have h1 := flat_ge says cs
  have h2 := txL_pos c.t
  have h3 : (txL c.t).length ≤ (rowOfC says c).length := by unfold rowOfC; rw [List.length_append]; omega
  omega
theorem take_le {W : World} {M n : Nat} {base : List PairV} {cs ds : List ChgV} (hb : Rise base) (hs : ∀ c ∈ ds, c ∈ cs) (h : KMap W M n (comF (allB base ds))) : n ≤ base.length + cs.length := by
 have h1 := h.le (ptsL base ++ cs.map fun c => (c.t, c.k)) fun t k _ _ hx => by
  unfold comF at hx
  rw [Option.isSome_map, look_allB _ hb] at hx
  rw [List.mem_append]
  by_cases hc : ∀ c ∈ ds, ¬ (t = c.t ∧ k = c.k)
  ·left
   rw [chgOf_none hc] at hx
   obtain ⟨v, hv⟩ := Option.isSome_iff_exists.1 hx
   exact look_some_mem hb hv
  ·right
   have : ∃ c ∈ ds, t = c.t ∧ k = c.k := by
    false_or_by_contra
    rename_i hn
    exact hc fun c hm he => hn ⟨c, hm, he⟩
   obtain ⟨c, hm, rfl, rfl⟩ := this
   exact List.mem_map.2 ⟨c, hs c hm, rfl⟩
 rw [List.length_append, List.length_map] at h1
 simpa [ptsL] using h1
def rdrLeft (b : Nat) (w : World) : Nat := match w.cell? ⟨b, 0, none⟩ with
 | some (.slice _ n _) => n
 | _ => 0
theorem Rdr.left_ {w : World} {b g : Nat} {l : List UInt8} (h : Rdr w b g (l, 0)) : rdrLeft b w = l.length := by
 obtain ⟨v, h1, h2, h3, h4, h5⟩ := h
 obtain ⟨o, c, hv, _⟩ := h4 rfl
 unfold rdrLeft
 rw [cell_at h1 (k := 0) rfl]
 subst hv
 rfl
theorem byTK_bel (x y : Plc) (w : World) : Calls Tryz.prog 61 #[.agg #[.string x.1, .string x.2], .agg #[.string y.1, .string y.2]] w fun e w' => e = .returned (.int .i64 (cmpPl x y)) ∧ Below w.heap.size w w' :=
 (byTK_any x y w).mono fun e w' ⟨he, q, os, hw⟩ => ⟨he, by
  rw [hw]
  refine ⟨rfl, rfl, rfl, ?_, fun k hk => ?_⟩
  ·rw [Go.Sort.size_grow]; exact Nat.le_add_right _ _
  ·rw [Go.Sort.heap_grow_old _ _ (by show k < w.heap.size; exact hk)]; rfl⟩
def StdX (w : World) : Prop := Tab w ∧ Hand w
theorem StdX.below {w w' : World} (h : StdX w) (hb : Below w.heap.size w w') : StdX w' := ⟨h.1.below hb, h.2.below hb h.2.pos⟩
theorem StdX.upd {w w' : World} {F : List Nat} (h : StdX w) (hu : Upd F w w') (hF : ∀ k ∈ F, ∀ i, w.cell? ⟨k, i, none⟩ = none) : StdX w' := by
 have hc : ∀ (g i : Nat) (v : Value), w.cell? ⟨g, i, none⟩ = some v → w'.cell? ⟨g, i, none⟩ = some v := fun g i v hv => by
  rw [hu.cell (lt_of_cell hv) (fun hx => by have := hF g hx i; rw [hv] at this; cases this)]
  exact hv
 obtain ⟨⟨h0, h1, h2, h3⟩, h4⟩ := h
 exact ⟨⟨fun i hi => hc _ _ _ (h0 i hi), fun i hi => hc _ _ _ (h1 i hi), fun i hi => hc _ _ _ (h2 i hi), fun i hi => hc _ _ _ (h3 i hi)⟩, hc _ _ _ h4⟩
theorem KMap.nocell {w : World} {M n : Nat} {f : ByteArray → ByteArray → Option Value} (h : KMap w M n f) (i : Nat) : w.cell? ⟨M, i, none⟩ = none := by
 obtain ⟨D, ⟨es, clock, hb, _⟩, _⟩ := h
 simp [World.cell?, hb]
theorem StdX.map {w w' : World} {M n : Nat} {f : ByteArray → ByteArray → Option Value} (h : StdX w) (hm : KMap w M n f) (hu : Upd [M] w w') : StdX w' := h.upd hu fun k hk i => by
 rw [List.mem_singleton] at hk
 rw [hk]; exact hm.nocell i
structure TkAt (w wr : World) (M b g p : Nat) (base : List PairV) (cs : List ChgV) (says i : Nat) : Prop where
 rdr : Rdr wr b g (restC says cs i, 0)
 map : ∃ n, KMap wr M n (comF (allB base (cs.take i)))
 last : wr.heap[p]? = some (.cells #[.string (lastP cs i).1, .string (lastP cs i).2] 66 (0, 0))
 upd : Upd [M] w wr
 ge : M < w.heap.size ∧ w.heap.size ≤ b ∧ w.heap.size ≤ g ∧ w.heap.size ≤ p ∧ p ≠ b ∧ p ≠ g
section
variable {w wr w2 : World} {M b g p says i : Nat} {base : List PairV} {cs : List ChgV}
theorem TkAt.kept (h : TkAt w wr M b g p base cs says i) (hu : Upd [b] wr w2) : (∃ n, KMap w2 M n (comF (allB base (cs.take i)))) ∧ w2.heap[p]? = some (.cells #[.string (lastP cs i).1, .string (lastP cs i).2] 66 (0, 0)) ∧ Upd [M] w w2 := by
 obtain ⟨h1, h2, h3, h4, h5, h6⟩ := h.ge
 obtain ⟨n, hm⟩ := h.map
 refine ⟨⟨n, hm.same (hu.block M hm.lt (by simp; omega))⟩, (hu.block p (lt_of_heap h.last) (by simpa using h5)).trans h.last, ?_⟩
 exact h.upd.trans hu fun x hx => by rw [List.mem_singleton] at hx; right; omega
theorem TkAt.came {w5 w6 w7 : World} {n' : Nat} (h : TkAt w wr M b g p base cs says i) (hi : i < cs.length) (hb : Rise base) (h5 : Rdr w5 b g (restC says cs (i + 1), 0)) (hu5 : Upd [b] wr w5) (hb6 : Below w5.heap.size w5 w6)
  (hm : KMap w7 M n' (updK (comF (allB base (cs.take i))) cs[i].t cs[i].k (cs[i].v.map fun v => conV (some v)))) (hu7 : Upd [M] w6 w7) :
  w7.heap[p]? = some (.cells #[.string (lastP cs i).1, .string (lastP cs i).2] 66 (0, 0)) ∧
  TkAt w ((w7.setCell ⟨p, 0, none⟩ (.string cs[i].t)).setCell ⟨p, 1, none⟩ (.string cs[i].k)) M b g p base cs says (i + 1) := by
 obtain ⟨g1, g2, g3, g4, g5, g6⟩ := h.ge
 obtain ⟨_, k2, k3⟩ := h.kept hu5
 have l5 := h5.lt
 have lp := lt_of_heap k2
 have e6 : ∀ k, k < w5.heap.size → k ≠ M → w7.heap[k]? = w5.heap[k]? := fun k hk hn => by
  rw [hu7.block k (Nat.lt_of_lt_of_le hk hb6.size) (by simpa using hn)]
  exact hb6.block k hk
 have hp7 := (e6 p lp (by omega)).trans k2
 have hz : w5.heap.size ≤ w7.heap.size := Nat.le_trans hb6.size hu7.size
 refine ⟨hp7, ?_, ⟨n', ?_⟩, ?_, ?_, h.ge⟩
 ·refine h5.kept (by simp [World.setCell]; exact hz) ?_ ?_
  ·rw [Below.heap_setCell _ _ _ _ (by show b ≠ p; omega), Below.heap_setCell _ _ _ _ (by show b ≠ p; omega)]
   exact e6 b l5.1 (by omega)
  ·rw [Below.heap_setCell _ _ _ _ (by show g ≠ p; omega), Below.heap_setCell _ _ _ _ (by show g ≠ p; omega)]
   exact e6 g l5.2 (by omega)
 ·refine KMap.same (w := w7) ?_ ?_
  ·rw [allB_take_succ i hi]
   exact hm.ext (comF_behind (rise_allB _ hb) _ _ _)
  ·rw [Below.heap_setCell _ _ _ _ (by show M ≠ p; omega), Below.heap_setCell _ _ _ _ (by show M ≠ p; omega)]
 ·rw [heap_set_at (heap_set_at hp7 _) _, lastP_succ cs i hi]
  rfl
 ·have h6 : Upd [M] w w7 := (k3.trans (Upd.of_below (F := []) hb6) (fun x hx => absurd hx List.not_mem_nil)).trans hu7 fun x hx => Or.inl hx
  exact (h6.setCell (Or.inr g4) _).setCell (Or.inr g4) _
end
end Go.Proofs.YtlommddabccdeaaGreatDoor
