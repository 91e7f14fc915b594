/-
  ValueWords.
-/
import Derived.Test.YtlcgfdijohgnpaaGreatDoorQValueList
namespace Go.Proofs.YtlcgfdijohgnpaaGreatDoor
open Go.ChangeShapes Go.WideShapes Go.ChangeAt Go.RowKit

def OwnT (B : Nat) (w : World) (x : Option Addr) (cap : Nat) (xs : List ByteArray) : Prop :=
 (x = none ∧ xs = [] ∧ cap = 0) ∨ ∃ g, x = some ⟨g, 0, none⟩ ∧ B ≤ g ∧ cap = xs.length ∧ 0 < xs.length ∧ w.heap[g]? = some (.cells (xs.map Value.string).toArray 9 (0, 0))
theorem OwnT.none_ (B : Nat) (w : World) : OwnT B w none 0 [] := Or.inl ⟨rfl, rfl, rfl⟩
def ParseRes (w0 : World) (p : Val × Int) (e : Ending) (w' : World) : Prop :=
 Below w0.heap.size w0 w' ∧ ∃ x cap, e = .returned (.tuple #[.agg #[.int .i64 p.1.kind, .int .i64 p.1.int, .string p.1.text, .slice x p.1.words.length cap], .int .i64 p.2]) ∧ OwnT w0.heap.size w' x cap p.1.words
theorem ParseRes.of_num {w w' : World} {p : Val × Int} {e : Ending} (hp : p.1.words = []) (he : e = .returned (numR p)) (hb : Below w.heap.size w w') : ParseRes w p e w' :=
 ⟨hb, none, 0, by rw [he, hp]; rfl, by rw [hp]; exact OwnT.none_ _ _⟩
theorem MaxI.below {w w' : World} (h : MaxI w) (hb : Below w.heap.size w w') : MaxI w' := by
 obtain ⟨m, hm⟩ := h
 exact ⟨m, by rw [hb.cell (lt_of_cell hm)]; exact hm⟩
theorem set4_block (w : World) {R g : Nat} (h : g ≠ R) (x y z u : Value) : (set4 w R x y z u).heap[g]? = w.heap[g]? := by
 unfold set4
 rw [Below.heap_setCell _ _ _ _ h, Below.heap_setCell _ _ _ _ h, Below.heap_setCell _ _ _ _ h, Below.heap_setCell _ _ _ _ h]
def listR (s : ByteArray) : Val × Int := if wordsV s.data.toList = 0 then (⟨6, 0, ⟨#[]⟩, wordsOf s.data.toList⟩, 0) else (zeroV, wordsV s.data.toList)
theorem wordsV_cases (s : ByteArray) : s.data.toList = [] ∨ (¬ s.data.toList = [] ∧ allWords (pieces s.data.toList) = false ∧ listR s = (zeroV, 40)) ∨
  (¬ s.data.toList = [] ∧ allWords (pieces s.data.toList) = true ∧ 200 < s.size ∧ listR s = (zeroV, 42)) ∨
  (¬ s.data.toList = [] ∧ allWords (pieces s.data.toList) = true ∧ s.size ≤ 200 ∧ 16 ≤ s.data.toList.count 44 ∧ listR s = (zeroV, 42)) ∨
  (¬ s.data.toList = [] ∧ allWords (pieces s.data.toList) = true ∧ s.size ≤ 200 ∧ s.data.toList.count 44 < 16 ∧ listR s = (⟨6, 0, ⟨#[]⟩, (pieces s.data.toList).map mkB⟩, 0)) := by
 have hl : s.data.toList.length = s.size := by simp
 have hc := pieces_count s.data.toList
 by_cases h0 : s.data.toList = []
 ·exact Or.inl h0
 refine Or.inr ?_
 cases ha : allWords (pieces s.data.toList) with
 | false =>
  have hw : wordsV s.data.toList = 40 := by unfold wordsV; rw [if_neg h0, ha, if_pos rfl]
  exact Or.inl ⟨h0, rfl, by unfold listR; rw [hw]; rfl⟩
 | true =>
  refine Or.inr ?_
  have hw : wordsV s.data.toList = if 200 < s.data.toList.length ∨ 16 < (pieces s.data.toList).length then 42 else 0 := by unfold wordsV; rw [if_neg h0, ha]; rfl
  by_cases h2 : 200 < s.size
  ·rw [if_pos (Or.inl (by omega))] at hw
   exact Or.inl ⟨h0, rfl, h2, by unfold listR; rw [hw]; rfl⟩
  refine Or.inr ?_
  by_cases h3 : 16 ≤ s.data.toList.count 44
  ·rw [if_pos (Or.inr (by omega))] at hw
   exact Or.inl ⟨h0, rfl, by omega, h3, by unfold listR; rw [hw]; rfl⟩
  ·rw [if_neg (by omega)] at hw
   exact Or.inr ⟨h0, rfl, by omega, by omega, by unfold listR wordsOf; rw [hw, if_pos rfl, if_neg h0]⟩

set_option maxHeartbeats 1600000 in
set_option maxRecDepth 100000 in
theorem parseWords_any (s : ByteArray) (w : World) (hT : Tab w) (hM : MaxI w) (hs : s.size ≤ maxLen) :
  Calls Tryz.prog 99 #[.string s] w (ParseRes w (listR s)) := by
 have HS := Lib.hid hs
 have HT := Lib.hid hT
 have HM := Lib.hid hM
 clear hT hM
 rcases wordsV_cases s with h0 | ⟨h0, ha, hv⟩ | ⟨h0, ha, hl, hv⟩ | ⟨h0, ha, hl, hn, hv⟩ | ⟨h0, ha, hl, hn, hv⟩
 ·obtain rfl := eq_text h0
  have HV : Hid (listR (mkB []) = (⟨6, 0, ⟨#[]⟩, []⟩, 0)) := Lib.hid rfl
  clear h0 hs
  have HZ := box4_new w (.int .i64 0) (.int .i64 0) (.string ⟨#[]⟩) (.slice none 0 0) 37
  go_enter Tryz.func99, Tryz.ntmps99
  unfold mkB
  go_wp2
  exact bodyPost_ret (v := .tuple #[.agg #[.int .i64 6, .int .i64 0, .string ⟨#[]⟩, .slice none 0 0], .int .i64 0]) (by simp [results, Tryz.results99, go_sem]) rfl ⟨(Below.refl _ _).alloc (Nat.le_refl _) _, none, 0, rfl, OwnT.none_ _ _⟩
 ·have HV := Lib.hid hv
  have HA := Lib.hid ha
  have e0 := ne_text h0
  have e1 : s.toList.isEmpty = false := by cases hq : s.toList with
   | nil => rw [hq] at e0; cases e0
   | cons a b => rfl
  clear hv ha h0 hs
  go_enter Tryz.func99, Tryz.ntmps99
  go_wp2_with fail
  refine (isList_any _ _ (HT.out.below ((Below.refl _ _).alloc (Nat.le_refl _) _)) HS.out).mono ?_
  rintro e w1 ⟨rfl, hb⟩
  rw [HA.out]
  have HZ : zero4 w1 w.heap.size := (box4_new w _ _ _ _ _).below hb
  have HZZ := Lib.hid (HZ.last (((Below.refl _ _).alloc (Nat.le_refl _) _).trans (hb.mono (by simp))) (Nat.le_refl _))
  clear hb
  obtain ⟨c0, c1, c2, c3, z0, z1, z2, z3⟩ := HZ
  obtain ⟨g0, g1, g2, g3, hB4⟩ := HZZ.out (.int .i64 0) (.int .i64 0) (.string ⟨#[]⟩) (.slice none 0 0)
  have HB := Lib.hid hB4
  clear hB4
  go_wp2
  exact bodyPost_ret (v := .tuple #[.agg #[.int .i64 0, .int .i64 0, .string ⟨#[]⟩, .slice none 0 0], .int .i64 40]) (by simp [results, Tryz.results99, go_sem, g0, g1, g2, g3]) rfl ⟨HB.out, none, 0, ret_val (by rw [HV.out]; rfl), HV.out ▸ OwnT.none_ _ _⟩
 ·have HV := Lib.hid hv
  have HA := Lib.hid ha
  have e0 := ne_text h0
  have e1 : s.toList.isEmpty = false := by cases hq : s.toList with
   | nil => rw [hq] at e0; cases e0
   | cons a b => rfl
  have d1 : decide (200 < (s.size : Int)) = true := decide_eq_true (by omega)
  clear hv ha h0 hs
  go_enter Tryz.func99, Tryz.ntmps99
  go_wp2_with fail
  refine (isList_any _ _ (HT.out.below ((Below.refl _ _).alloc (Nat.le_refl _) _)) HS.out).mono ?_
  rintro e w1 ⟨rfl, hb⟩
  rw [HA.out]
  have HZ : zero4 w1 w.heap.size := (box4_new w _ _ _ _ _).below hb
  have HZZ := Lib.hid (HZ.last (((Below.refl _ _).alloc (Nat.le_refl _) _).trans (hb.mono (by simp))) (Nat.le_refl _))
  clear hb
  obtain ⟨c0, c1, c2, c3, z0, z1, z2, z3⟩ := HZ
  obtain ⟨g0, g1, g2, g3, hB4⟩ := HZZ.out (.int .i64 0) (.int .i64 0) (.string ⟨#[]⟩) (.slice none 0 0)
  have HB := Lib.hid hB4
  clear hB4
  go_wp2
  exact bodyPost_ret (v := .tuple #[.agg #[.int .i64 0, .int .i64 0, .string ⟨#[]⟩, .slice none 0 0], .int .i64 42]) (by simp [results, Tryz.results99, go_sem, g0, g1, g2, g3]) rfl ⟨HB.out, none, 0, ret_val (by rw [HV.out]; rfl), HV.out ▸ OwnT.none_ _ _⟩
 ·have HV := Lib.hid hv
  have HA := Lib.hid ha
  have e0 := ne_text h0
  have e1 : s.toList.isEmpty = false := by cases hq : s.toList with
   | nil => rw [hq] at e0; cases e0
   | cons a b => rfl
  have d1 : decide (200 < (s.size : Int)) = false := decide_eq_false (by omega)
  obtain ⟨m, hm⟩ : ∃ m, s.data.toList.count 44 = m := ⟨_, rfl⟩
  have HCN := Lib.hid hm
  rw [hm] at hn
  have d2 : decide ((16 : Int) ≤ (m : Int)) = true := decide_eq_true (by omega)
  clear hm
  clear hv ha h0 hs
  go_enter Tryz.func99, Tryz.ntmps99
  go_wp2_with fail
  refine (isList_any _ _ (HT.out.below ((Below.refl _ _).alloc (Nat.le_refl _) _)) HS.out).mono ?_
  rintro e w1 ⟨rfl, hb⟩
  rw [HA.out]
  have HZ : zero4 w1 w.heap.size := (box4_new w _ _ _ _ _).below hb
  have HZZ := Lib.hid (HZ.last (((Below.refl _ _).alloc (Nat.le_refl _) _).trans (hb.mono (by simp))) (Nat.le_refl _))
  clear hb
  obtain ⟨c0, c1, c2, c3, z0, z1, z2, z3⟩ := HZ
  obtain ⟨g0, g1, g2, g3, hB4⟩ := HZZ.out (.int .i64 0) (.int .i64 0) (.string ⟨#[]⟩) (.slice none 0 0)
  have HB := Lib.hid hB4
  clear hB4
  go_wp2_with fail
  refine (count_any _ _).mono ?_
  rintro e w' ⟨rfl, rfl⟩
  rw [HCN.out]
  go_wp2
  exact bodyPost_ret (v := .tuple #[.agg #[.int .i64 0, .int .i64 0, .string ⟨#[]⟩, .slice none 0 0], .int .i64 42]) (by simp [results, Tryz.results99, go_sem, g0, g1, g2, g3]) rfl ⟨HB.out, none, 0, ret_val (by rw [HV.out]; rfl), HV.out ▸ OwnT.none_ _ _⟩
 ·have HV := Lib.hid hv
  have HA := Lib.hid ha
  have e0 := ne_text h0
  have e1 : s.toList.isEmpty = false := by cases hq : s.toList with
   | nil => rw [hq] at e0; cases e0
   | cons a b => rfl
  have d1 : decide (200 < (s.size : Int)) = false := decide_eq_false (by omega)
  obtain ⟨m, hm⟩ : ∃ m, s.data.toList.count 44 = m := ⟨_, rfl⟩
  have HCN := Lib.hid hm
  rw [hm] at hn
  have d2 : decide ((16 : Int) ≤ (m : Int)) = false := decide_eq_false (by omega)
  clear hm
  clear hv ha h0 hs hn
  go_enter Tryz.func99, Tryz.ntmps99
  go_wp2_with fail
  refine (isList_any _ _ (HT.out.below ((Below.refl _ _).alloc (Nat.le_refl _) _)) HS.out).mono ?_
  rintro e w1 ⟨rfl, hb⟩
  rw [HA.out]
  have HB1 : Hid (Below w.heap.size w w1 ∧ zero4 w1 w.heap.size) := Lib.hid ⟨((Below.refl _ _).alloc (Nat.le_refl _) _).trans (hb.mono (by simp)), (box4_new w _ _ _ _ _).below hb⟩
  clear hb
  go_wp2_with fail
  refine (count_any _ _).mono ?_
  rintro e w' ⟨rfl, rfl⟩
  rw [HCN.out]
  go_wp2_with fail
  refine (clone_any _ _ (by omega)).mono ?_
  rintro e w3 ⟨rfl, hb3⟩
  have HB3 : Hid (Below w.heap.size w w3 ∧ zero4 w3 w.heap.size) := Lib.hid ⟨HB1.out.1.trans (hb3.mono HB1.out.1.size), HB1.out.2.below hb3⟩
  clear hb3 HB1
  go_wp2_with fail
  refine (split_any _ _ hl (HM.out.below HB3.out.1)).mono ?_
  rintro e w4 ⟨rfl, hw4⟩
  have hb4 : Below w3.heap.size w3 w4 := by rw [hw4]; exact (Below.refl _ _).alloc (Nat.le_refl _) _
  have hblk : w4.heap[w3.heap.size]? = some (.cells (((pieces s.data.toList).map mkB).map Value.string).toArray 9 (0, 0)) := by rw [hw4]; exact heap_alloc_new _ _
  have hge : w.heap.size < w3.heap.size := HB3.out.2.lt
  have hB4 : Below w.heap.size w w4 := HB3.out.1.trans (hb4.mono HB3.out.1.size)
  have HZ : zero4 w4 w.heap.size := HB3.out.2.below hb4
  obtain ⟨g, hg⟩ : ∃ g, w3.heap.size = g := ⟨_, rfl⟩
  rw [hg] at hblk hge ⊢
  obtain ⟨n, hn⟩ : ∃ n, (pieces s.data.toList).length = n := ⟨_, rfl⟩
  have HN := Lib.hid hn
  rw [hn]
  have HO : Hid (OwnT w.heap.size (set4 w4 w.heap.size (.int .i64 6) (.int .i64 0) (.string ⟨#[]⟩) (.slice (some ⟨g, 0, none⟩) n n)) (some ⟨g, 0, none⟩) n ((pieces s.data.toList).map mkB)) := Lib.hid (Or.inr ⟨g, rfl, by omega, by simp [hn], by rw [List.length_map, hn]; have := pieces_count s.data.toList; omega, by rw [set4_block _ (by omega)]; exact hblk⟩)
  have HZZ := Lib.hid (HZ.last hB4 (Nat.le_refl _))
  clear hw4 hb4 hblk hge hB4 hg hn HB3
  obtain ⟨c0, c1, c2, c3, z0, z1, z2, z3⟩ := HZ
  obtain ⟨g0, g1, g2, g3, hB4⟩ := HZZ.out (.int .i64 6) (.int .i64 0) (.string ⟨#[]⟩) (.slice (some ⟨g, 0, none⟩) n n)
  have HB := Lib.hid hB4
  clear hB4
  go_wp2
  exact bodyPost_ret (v := .tuple #[.agg #[.int .i64 6, .int .i64 0, .string ⟨#[]⟩, .slice (some ⟨g, 0, none⟩) n n], .int .i64 0]) (by simp [results, Tryz.results99, go_sem, g0, g1, g2, g3]) rfl ⟨HB.out, some ⟨g, 0, none⟩, n, ret_val (by rw [HV.out]; simp [HN.out]), by rw [HV.out]; exact HO.out⟩
end Go.Proofs.YtlcgfdijohgnpaaGreatDoor
