/-
  ValueRefWords, ValueRefParse.
-/
import Derived.Test.YtlcgfdijohgnpaaGreatDoorQValueUnited
import Derived.Test.YtlcgfdijohgnpaaGreatDoorQValueWords
import Derived.Test.YtlcgfdijohgnpaaGreatDoorQValueParse
namespace Go.Proofs.YtlcgfdijohgnpaaGreatDoor
open Go.ChangeShapes Go.WideShapes Go.ChangeAt Go.RowKit

def OwnS (B : Nat) (w : World) (v : Value) (xs : List ByteArray) : Prop := w.ownsRow B 9 1 v xs.length (xs.map Value.string)
theorem OwnS.nil_ (B : Nat) (w : World) : OwnS B w (.slice none 0 0) [] := World.ownsRow_nil _ _ _ _
theorem OwnS.txts {B : Nat} {w : World} {v : Value} {xs : List ByteArray} (h : OwnS B w v xs) : ∃ x cap, v = .slice x xs.length cap ∧ xs.length ≤ cap ∧ Txts w x xs ∧ ∀ b off, x = some ⟨b, off, none⟩ → B ≤ b := by
 rcases h.2 with ⟨rfl, hn⟩ | ⟨g, cap, cur, rfl, _, hcur, hnc, hcm, hcs, htake⟩
 ·obtain rfl := List.eq_nil_of_length_eq_zero hn
  exact ⟨none, 0, rfl, Nat.le_refl _, Txts.nil_ _ _, fun _ _ h => by cases h⟩
 ·refine ⟨_, cap, rfl, hnc, fun k hk => ⟨g, 0, rfl, (World.ownsRow.lt h g rfl).2, ?_⟩, fun b off e => ?_⟩
  rotate_left
  ·obtain ⟨rfl, _⟩ : g = b ∧ 0 = off := by simpa using e
   exact (World.ownsRow.lt h g rfl).1
  have hc := World.ownsRow.cellAt h k (by simpa using hk)
  rw [Nat.zero_add, hc]; simp [hk]
theorem OwnS.shape {B : Nat} {w : World} {v : Value} {xs : List ByteArray} (h : OwnS B w v xs) : ∃ x n cap, v = .slice x n cap := by
 obtain ⟨x, cap, h1, _⟩ := h.txts
 exact ⟨x, _, cap, h1⟩
theorem stepS {ops : Array Oper} {o : Oper} {a : Act} {K : Act → World → Prop} {Q : Exit → Act → World → Prop} {E : Prop} (hgd : o.guard = none) (s x : Operand)
  (ho : o.op = .call { callee := .builtin .append, args := #[s, x], argTypes := #[26, 26] })
  {B : Nat} {w : World} {v : Value} {xs : List ByteArray} (hown : OwnS B w v xs) (hB : B ≤ w.heap.size) (hs : a.eval s = v) (t : ByteArray)
  {g : Nat} (hx : a.eval x = .slice (some ⟨g, 0, none⟩) 1 1) (hsrc : w.cell? ⟨g, 0, none⟩ = some (.string t)) (hb : xs.length + 1 ≤ 1000000)
  (h : ∀ v' w', OwnS B w' v' (xs ++ [t]) → Below B w w' → K (a.put o.dst v') w') : if Region.wanted o (yielded ops a.tmps) = true then Oper.wp Tryz.prog o a w K Q else E := by
 have hw : Region.wanted o (yielded ops a.tmps) = true := by simp [Region.wanted, hgd]
 rw [if_pos hw]
 obtain ⟨i0, hi, hz0, hz1, hz2⟩ := info_parts infoStr
 refine wp_append_own _ s x 26 ho B 9 i0 (.string ByteArray.empty) 1 16 Tryz.underlying26 hi hz0 hz1 hz2 rfl (by decide) v xs.length (xs.map Value.string) hs hown ⟨g, 0, none⟩ 1 1 [.string t] hx (by simp) ?_ ?_ (by unfold maxLen; omega) (by omega) hB ?_
 ·intro j u hj
  cases j with
  | zero => rw [show (⟨g, 0, none⟩ : Addr).add 0 = ⟨g, 0, none⟩ from rfl, hsrc]; simpa using hj
  | succ j => simp at hj
 ·intro u hu
  obtain rfl : u = .string t := by simpa using hu
  rfl
 ·intro v' w' h1 h2 _
  refine h v' w' ?_ ((Below.refl B w).grown h2 hB (fun k hk => (World.ownsRow.lt hown k hk).1))
  unfold OwnS
  rw [List.length_append, List.map_append]
  simpa using h1

def piecesGo (seg rest : List UInt8) : List (List UInt8) := match pieces rest with
 | [] => []
 | p :: ps => (seg ++ p) :: ps
theorem piecesGo_all (l : List UInt8) : piecesGo [] l = pieces l := by
 unfold piecesGo
 cases h : pieces l with
 | nil => exact absurd h (pieces_pos l)
 | cons p ps => rfl
theorem piecesGo_comma (seg r : List UInt8) : piecesGo seg (44 :: r) = seg :: piecesGo [] r := by
 rw [piecesGo_all, piecesGo, pieces_comma]; simp
theorem piecesGo_end (seg : List UInt8) : piecesGo seg [] = [seg] := by simp [piecesGo, pieces]
theorem piecesGo_cons {c : UInt8} (h : ¬ c = 44) (seg r : List UInt8) : piecesGo seg (c :: r) = piecesGo (seg ++ [c]) r := by
 obtain ⟨p, ps, h1, h2⟩ := pieces_cons (r := r) h
 rw [piecesGo, piecesGo, h1, h2]; simp
theorem take16_snoc (dn : List (List UInt8)) (x : List UInt8) : (dn ++ [x]).take 16 = if dn.length < 16 then dn.take 16 ++ [x] else dn.take 16 := by
 split
 ·rw [List.take_of_length_le (by simp; omega), List.take_of_length_le (by omega)]
 ·rw [List.take_append_of_le_length (by omega)]

structure RefWdsAt (w wr : World) (s : ByteArray) (b k : Nat) (v : Value) (dn : List (List UInt8)) : Prop where
 below : Below w.heap.size w wr
 zero : zero4 wr w.heap.size
 box : Box4 wr (w.heap.size + 1) (.int .i64 6) (.int .i64 0) (.string ⟨#[]⟩) v
 own : OwnS (w.heap.size + 2) wr v ((dn.take 16).map mkB)
 size : w.heap.size + 2 ≤ wr.heap.size
 words : allWords dn = true
 rest : (k ≤ s.size ∧ b ≤ k ∧ pieces s.data.toList = dn ++ piecesGo ((s.data.toList.drop b).take (k - b)) (s.data.toList.drop k)) ∨ (k = s.size + 1 ∧ pieces s.data.toList = dn)
def RefRes (w0 : World) (p : Val × Int) (e : Ending) (w' : World) : Prop :=
 Below w0.heap.size w0 w' ∧ ∃ x cap, e = .returned (.tuple #[.agg #[.int .i64 p.1.kind, .int .i64 p.1.int, .string p.1.text, .slice x p.1.words.length cap], .int .i64 p.2]) ∧ p.1.words.length ≤ cap ∧ Txts w' x p.1.words ∧ ∀ b off, x = some ⟨b, off, none⟩ → w0.heap.size ≤ b
theorem RefRes.of_num {w w' : World} {p : Val × Int} {e : Ending} (hp : p.1.words = []) (he : e = .returned (numR p)) (hb : Below w.heap.size w w') : RefRes w p e w' :=
 ⟨hb, none, 0, by rw [he, hp]; rfl, by rw [hp]; exact Nat.le_refl _, by rw [hp]; exact Txts.nil_ _ _, fun _ _ h => by cases h⟩
theorem Box4.set3 {w : World} {R : Nat} {a b c d : Value} (h : Box4 w R a b c d) (u : Value) : Box4 (w.setCell ⟨R, 3, none⟩ u) R a b c u := by
 obtain ⟨h0, h1, h2, h3, z0, z1, z2, z3⟩ := h
 refine ⟨?_, ?_, ?_, World.cell?_setCell_same w ⟨R, 3, none⟩ u h3, ?_, ?_, ?_, ?_⟩
 ·rw [World.cell?_setCell_other _ _ _ _ (by simp), h0]
 ·rw [World.cell?_setCell_other _ _ _ _ (by simp), h1]
 ·rw [World.cell?_setCell_other _ _ _ _ (by simp), h2]
 all_goals (rw [World.frozen?_setCell]; assumption)
theorem Box4.apart {w : World} {R V : Nat} {a b c d : Value} (h : Box4 w R a b c d) (hn : V ≠ R) (j : Nat) (u : Value) : Box4 (w.setCell ⟨V, j, none⟩ u) R a b c d := by
 obtain ⟨h0, h1, h2, h3, z0, z1, z2, z3⟩ := h
 have ne : ∀ i, (⟨V, j, none⟩ : Addr) ≠ ⟨R, i, none⟩ := fun i e => hn (congrArg Addr.block e)
 refine ⟨?_, ?_, ?_, ?_, ?_, ?_, ?_, ?_⟩
 ·rw [World.cell?_setCell_other _ _ _ _ (ne _), h0]
 ·rw [World.cell?_setCell_other _ _ _ _ (ne _), h1]
 ·rw [World.cell?_setCell_other _ _ _ _ (ne _), h2]
 ·rw [World.cell?_setCell_other _ _ _ _ (ne _), h3]
 all_goals (rw [World.frozen?_setCell]; assumption)
theorem Box4.upto {w w' : World} {R B : Nat} {a b c d : Value} (h : Box4 w R a b c d) (hb : Below B w w') (hR : R < B) : Box4 w' R a b c d := by
 obtain ⟨h0, h1, h2, h3, z0, z1, z2, z3⟩ := h
 exact ⟨by rw [hb.cell hR]; exact h0, by rw [hb.cell hR]; exact h1, by rw [hb.cell hR]; exact h2, by rw [hb.cell hR]; exact h3, by rw [hb.frozen hR]; exact z0, by rw [hb.frozen hR]; exact z1, by rw [hb.frozen hR]; exact z2, by rw [hb.frozen hR]; exact z3⟩
theorem allWords_snoc {dn : List (List UInt8)} {x : List UInt8} (h : allWords dn = true) (hx : wordB x = true) : allWords (dn ++ [x]) = true := by
 unfold allWords at h ⊢; rw [List.all_append, h]; simp [hx]
theorem RefWdsAt.more {w wr w2 : World} {s : ByteArray} {b k : Nat} {v v2 : Value} {dn : List (List UInt8)} (h : RefWdsAt w wr s b k v dn) {o : Obj} (hb : Below (w.heap.size + 2) (wr.alloc o).drew w2) {x : List UInt8} (hx : wordB x = true)
  (ho : OwnS (w.heap.size + 2) w2 v2 ((dn.take 16).map mkB ++ [mkB x])) (hm : dn.length < 16) {b' k' : Nat} (hr : (k' ≤ s.size ∧ b' ≤ k' ∧ pieces s.data.toList = (dn ++ [x]) ++ piecesGo ((s.data.toList.drop b').take (k' - b')) (s.data.toList.drop k')) ∨ (k' = s.size + 1 ∧ pieces s.data.toList = dn ++ [x])) :
  RefWdsAt w (w2.setCell ⟨w.heap.size + 1, 3, none⟩ v2) s b' k' v2 (dn ++ [x]) := by
 have e : ((dn ++ [x]).take 16).map mkB = (dn.take 16).map mkB ++ [mkB x] := by rw [take16_snoc, if_pos hm, List.map_append]; rfl
 have hb1 : Below (w.heap.size + 2) wr w2 := ((Below.refl _ wr).alloc h.size o).drew.trans hb
 refine ⟨((h.below.trans (hb1.mono (by omega))).setCell (p := ⟨w.heap.size + 1, 3, none⟩) (by show w.heap.size ≤ w.heap.size + 1; omega) v2), ?_, ?_, ?_, ?_, allWords_snoc h.words hx, hr⟩
 ·exact (h.zero.upto hb1 (by omega)).apart (by omega) 3 v2
 ·exact (h.box.upto hb1 (by omega)).set3 v2
 ·rw [e]
  exact ownsRow_setCell_below ho (by show w.heap.size + 1 < w.heap.size + 2; omega) v2
 ·have h1 := hb1.size
  have h2 := h.size
  show w.heap.size + 2 ≤ (w2.setCell _ _).heap.size
  simp [World.setCell]; omega
theorem RefWdsAt.step {w wr : World} {s : ByteArray} {b k : Nat} {v : Value} {dn : List (List UInt8)} (h : RefWdsAt w wr s b k v dn) {b' k' : Nat} (hr : (k' ≤ s.size ∧ b' ≤ k' ∧ pieces s.data.toList = dn ++ piecesGo ((s.data.toList.drop b').take (k' - b')) (s.data.toList.drop k')) ∨ (k' = s.size + 1 ∧ pieces s.data.toList = dn)) : RefWdsAt w wr s b' k' v dn :=
 ⟨h.below, h.zero, h.box, h.own, h.size, h.words, hr⟩
theorem RefWdsAt.full {w wr : World} {s : ByteArray} {b k : Nat} {v : Value} {dn : List (List UInt8)} (h : RefWdsAt w wr s b k v dn) {x : List UInt8} (hx : wordB x = true) (hm : ¬ dn.length < 16) {b' k' : Nat} (hr : (k' ≤ s.size ∧ b' ≤ k' ∧ pieces s.data.toList = (dn ++ [x]) ++ piecesGo ((s.data.toList.drop b').take (k' - b')) (s.data.toList.drop k')) ∨ (k' = s.size + 1 ∧ pieces s.data.toList = dn ++ [x])) : RefWdsAt w wr s b' k' v (dn ++ [x]) :=
 ⟨h.below, h.zero, h.box, by rw [take16_snoc, if_neg hm]; exact h.own, h.size, allWords_snoc h.words hx, hr⟩
theorem rest_end {l : List UInt8} {dn : List (List UInt8)} {k : Nat} {seg : List UInt8} (hk : l.length ≤ k) (h : pieces l = dn ++ piecesGo seg (l.drop k)) : pieces l = dn ++ [seg] := by
 rw [List.drop_eq_nil_of_le hk, piecesGo_end] at h; exact h
theorem not_word {s : ByteArray} {dn : List (List UInt8)} {seg : List UInt8} {r : List (List UInt8)} (hn : ¬ s.data.toList = []) (hx : wordB seg = false) (h : pieces s.data.toList = dn ++ seg :: r) : listR s = (zeroV, 40) := by
 have ha : allWords (pieces s.data.toList) = false := by rw [h]; unfold allWords; rw [List.all_append, List.all_cons, hx]; simp
 have hw : wordsV s.data.toList = 40 := by unfold wordsV; rw [if_neg hn, ha, if_pos rfl]
 unfold listR; rw [hw]; rfl
theorem all_words {s : ByteArray} {dn : List (List UInt8)} (hn : ¬ s.data.toList = []) (hx : allWords dn = true) (h : pieces s.data.toList = dn) : listR s = if 200 < s.size ∨ 16 < dn.length then (zeroV, 42) else (⟨6, 0, ⟨#[]⟩, (dn.take 16).map mkB⟩, 0) := by
 have hw : wordsV s.data.toList = if 200 < s.size ∨ 16 < dn.length then 42 else 0 := by unfold wordsV; rw [if_neg hn, h, hx, size_data]; rfl
 unfold listR
 rw [hw]
 by_cases hc : 200 < s.size ∨ 16 < dn.length
 ·rw [if_pos hc, if_pos hc]; rfl
 ·rw [if_neg hc, if_neg hc, if_pos rfl, List.take_of_length_le (by omega)]
  unfold wordsOf; rw [if_neg hn, h]
theorem OwnS.set4 {B : Nat} {w : World} {v : Value} {xs : List ByteArray} (h : OwnS B w v xs) {R : Nat} (hR : R < B) (x y z u : Value) : OwnS B (set4 w R x y z u) v xs :=
 ownsRow_setCell_below (ownsRow_setCell_below (ownsRow_setCell_below (ownsRow_setCell_below h hR x) hR y) hR z) hR u


set_option maxHeartbeats 3200000 in
set_option maxRecDepth 100000 in
theorem refWords_any (s : ByteArray) (w : World) (hs : s.size ≤ 2147483647) :
  Calls Tryz.prog 73 #[.string s] w (RefRes w (listR s)) := by
 have hs' := hs
 have hSub : Hid (∀ a b, (s.extract a b).size ≤ maxLen) := Lib.hid fun a b => by unfold maxLen; rw [ByteArray.size_extract]; omega
 clear hs
 by_cases hn : s.data.toList = []
 ·obtain rfl := eq_text hn
  clear hn hSub hs'
  go_enter Tryz.func73, Tryz.ntmps73
  unfold mkB
  go_wp2
  go_loopw [5, 6, 7, 8] (fun f m i _ wr => f = .int .i64 0 ∧ m = .int .i64 0 ∧ i = .int .i64 0 ∧ wr = (w.alloc (.cells #[.int .i64 0, .int .i64 0, .string ⟨#[]⟩, .slice none 0 0] 37)).alloc (.cells #[.int .i64 6, .int .i64 0, .string ⟨#[]⟩, .slice none 0 0] 37)) (fun _ _ _ _ _ => 0)
  case atStart => exact ⟨rfl, rfl, rfl, rfl⟩
  case round =>
   obtain ⟨rfl, rfl, rfl, rfl⟩ := hrel
   go_wp2
   exact bodyPost_ret (v := .tuple #[.agg #[.int .i64 6, .int .i64 0, .string ⟨#[]⟩, .slice none 0 0], .int .i64 0]) (by simp [results, Tryz.results73, go_sem]) rfl ⟨(((Below.refl _ _).alloc (Nat.le_refl _) _).alloc (by simp) _), none, 0, rfl, Nat.le_refl _, Txts.nil_ _ _, fun _ _ h => by cases h⟩
 have e0 := ne_text hn
 have e1 := emp_false hn
 have HN := Lib.hid hn
 have hl0 : 0 < s.size := by
  rcases Nat.eq_zero_or_pos s.size with h | h
  ·exact absurd (List.eq_nil_of_length_eq_zero (by rw [size_data]; exact h)) hn
  ·exact h
 have HA0 : Hid (∀ wr, wr = (w.alloc (.cells #[.int .i64 0, .int .i64 0, .string ⟨#[]⟩, .slice none 0 0] 37)).alloc (.cells #[.int .i64 6, .int .i64 0, .string ⟨#[]⟩, .slice none 0 0] 37) → RefWdsAt w wr s 0 0 (.slice none 0 0) []) := Lib.hid (by
  rintro wr rfl
  have hb := ((Below.refl w.heap.size w).alloc (Nat.le_refl _) (.cells #[.int .i64 0, .int .i64 0, .string ⟨#[]⟩, .slice none 0 0] 37)).alloc (by simp) (.cells #[.int .i64 6, .int .i64 0, .string ⟨#[]⟩, .slice none 0 0] 37)
  refine ⟨hb, ?_, ?_, OwnS.nil_ _ _, by simp, rfl, Or.inl ⟨by omega, by omega, by simp [piecesGo_all]⟩⟩
  ·exact (box4_new w _ _ _ _ _).below ((Below.refl _ _).alloc (Nat.le_refl _) _)
  ·have := box4_new (w.alloc (.cells #[.int .i64 0, .int .i64 0, .string ⟨#[]⟩, .slice none 0 0] 37)) (.int .i64 6) (.int .i64 0) (.string ⟨#[]⟩) (.slice none 0 0) 37
   simpa using this)
 clear hn
 go_enter Tryz.func73, Tryz.ntmps73
 go_wp2
 go_loopw [5, 6, 7, 8] (fun f m i _ wr => ∃ (b k : Nat) (v : Value) (dn : List (List UInt8)), f = .int .i64 b ∧ m = .int .i64 dn.length ∧ i = .int .i64 k ∧ k ≤ s.size + 1 ∧ b ≤ s.size + 1 ∧ dn.length ≤ k ∧ Hid (RefWdsAt w wr s b k v dn)) (fun _ _ i _ _ => s.size + 2 - (intOf i).toNat)
 case atStart => exact ⟨0, 0, .slice none 0 0, [], rfl, rfl, rfl, by omega, by omega, by simp, Lib.hid (HA0.out _ rfl)⟩
 case round =>
  clear HA0
  obtain ⟨b, k, v, dn, rfl, rfl, rfl, hk1, hb1, hdk, HA⟩ := hrel
  obtain ⟨M, hM⟩ : ∃ M, dn.length = M := ⟨_, rfl⟩
  have HM := Lib.hid hM
  rw [hM] at hdk ⊢
  clear hM
  by_cases hk : k ≤ s.size
  ·have hrest : b ≤ k ∧ pieces s.data.toList = dn ++ piecesGo ((s.data.toList.drop b).take (k - b)) (s.data.toList.drop k) := by
    rcases HA.out.rest with ⟨_, h1, h2⟩ | ⟨h1, _⟩
    ·exact ⟨h1, h2⟩
    ·omega
   obtain ⟨hbk, hre⟩ := hrest
   rw [← str_extract] at hre
   have q1 : (0 : Int) ≤ b := by omega
   have q2 : (b : Int) ≤ k := by omega
   have q3 : (k : Int) ≤ s.size := by omega
   have HRE := Lib.hid hre
   clear hre
   by_cases hend : k = s.size
   ·skip
    have hkk : ((k : Int) == s.size) = true := beq_iff_eq.2 (by omega)
    have HR2 : Hid (pieces s.data.toList = dn ++ [(s.extract b k).data.toList]) := Lib.hid (rest_end (k := k) (by rw [size_data]; omega) HRE.out)
    have HNW : Hid (wordB (s.extract b k).data.toList = false → listR s = (zeroV, 40)) := Lib.hid fun hx => not_word (r := []) HN.out hx HR2.out
    have HNX : Hid ((k + 1 ≤ s.size ∧ k + 1 ≤ k + 1 ∧ pieces s.data.toList = (dn ++ [(s.extract b k).data.toList]) ++ piecesGo ((s.data.toList.drop (k + 1)).take (k + 1 - (k + 1))) (s.data.toList.drop (k + 1))) ∨ (k + 1 = s.size + 1 ∧ pieces s.data.toList = dn ++ [(s.extract b k).data.toList])) := Lib.hid (Or.inr ⟨by omega, HR2.out⟩)
    obtain ⟨x, hx⟩ : ∃ x, (s.extract b k).data.toList = x := ⟨_, rfl⟩
    have hxe : s.extract b k = mkB x := by rw [← hx, mkB_self]
    have HT := Lib.hid hxe
    rw [hx] at HNW HNX
    have hxd : (s.extract b k).data.toList = x := hx
    clear HRE HR2 hx hxe hend
    cases hwb : wordB x with
    | false =>
     have HWB : Hid (wordB (s.extract b k).data.toList = false) := Lib.hid (by rw [hxd]; exact hwb)
     have HV := Lib.hid (HNW.out hwb)
     clear hwb HNW HNX hxd
     go_wp2_with fail
     refine (refIsWord_any _ _ (hSub.out _ _)).mono ?_
     rintro e w' ⟨rfl, rfl⟩
     rw [HWB.out]
     obtain ⟨c0, c1, c2, c3, z0, z1, z2, z3⟩ := HA.out.zero
     obtain ⟨g0, g1, g2, g3, hB4⟩ := HA.out.zero.last HA.out.below (Nat.le_refl _) (.int .i64 0) (.int .i64 0) (.string ⟨#[]⟩) (.slice none 0 0)
     have HB := Lib.hid hB4
     clear hB4
     go_wp2
     exact bodyPost_ret (v := .tuple #[.agg #[.int .i64 0, .int .i64 0, .string ⟨#[]⟩, .slice none 0 0], .int .i64 40]) (by simp [results, Tryz.results73, go_sem, g0, g1, g2, g3]) rfl (RefRes.of_num (by rw [HV.out]; rfl) (by rw [HV.out]; rfl) HB.out)
    | true =>
     have HWB : Hid (wordB (s.extract b k).data.toList = true) := Lib.hid (by rw [hxd]; exact hwb)
     have HX := Lib.hid hwb
     clear hwb HNW hxd
     by_cases hm : M < 16
     ·have HM16 : Hid (dn.length < 16) := Lib.hid (by rw [HM.out]; exact hm)
      have v3 := HA.out.box.c3
      have HVX : Hid (∀ o, ((wr.alloc o).drew).cell? ⟨w.heap.size + 1, 3, none⟩ = some v ∧ ((wr.alloc o).drew).frozen? ⟨w.heap.size + 1, 3, none⟩ = false) := Lib.hid fun o => ⟨(HA.out.box.below (((Below.refl _ _).alloc (Nat.le_refl _) o).drew)).c3, (HA.out.box.below (((Below.refl _ _).alloc (Nat.le_refl _) o).drew)).z3⟩
      have hlen : ((dn.take 16).map mkB).length + 1 ≤ 1000000 := by simp; omega
      have hVlt : w.heap.size + 1 < wr.heap.size := HA.out.box.lt
      have HO := Lib.hid (HA.out.own)
      have hsz := HA.out.size
      have hmi : decide ((M : Int) < 16) = true := decide_eq_true (by omega)
      go_wp2_with fail
      refine (refIsWord_any _ _ (hSub.out _ _)).mono ?_
      rintro e w' ⟨rfl, rfl⟩
      rw [HWB.out]
      go_wp2
      first
       | (go_region_law (refine stepS rfl _ _ rfl ((HO.out.alloc _).drew) (by simp; omega) rfl (s.extract b k) rfl (by simp) hlen ?_; intro v2 w2 ho2 hb2; obtain ⟨x2, n2, cap2, rfl⟩ := ho2.shape; have v3' : w2.cell? ⟨w.heap.size + 1, 3, none⟩ = some v := (hb2.cell (p := ⟨w.heap.size + 1, 3, none⟩) (by show w.heap.size + 1 < w.heap.size + 2; omega)).trans (HVX.out _).1; have y3' : w2.frozen? ⟨w.heap.size + 1, 3, none⟩ = false := (hb2.frozen (p := ⟨w.heap.size + 1, 3, none⟩) (by show w.heap.size + 1 < w.heap.size + 2; omega)).trans (HVX.out _).2))
       | (go_region_law (refine stepS rfl _ _ rfl ((HO.out.alloc _).drew) (by simp; omega) rfl (s.extract b k) rfl (by simp) hlen ?_; intro v2 w2 ho2 hb2; obtain ⟨x2, n2, cap2, rfl⟩ := ho2.shape; have v3' : w2.cell? ⟨w.heap.size + 1, 3, none⟩ = some v := (hb2.cell (p := ⟨w.heap.size + 1, 3, none⟩) (by show w.heap.size + 1 < w.heap.size + 2; omega)).trans (HVX.out _).1; have y3' : w2.frozen? ⟨w.heap.size + 1, 3, none⟩ = false := (hb2.frozen (p := ⟨w.heap.size + 1, 3, none⟩) (by show w.heap.size + 1 < w.heap.size + 2; omega)).trans (HVX.out _).2))
      all_goals
       rw [HT.out] at ho2
       have HNEW := Lib.hid (HA.out.more hb2 HX.out ho2 HM16.out HNX.out)
       clear ho2 hb2
       go_wp2
       go_roundw
       case rel => exact ⟨k + 1, k + 1, .slice x2 n2 cap2, dn ++ [x], by go_num, by rw [List.length_append, HM.out]; go_num, by go_num, by omega, by omega, by rw [List.length_append, HM.out]; simp; omega, HNEW⟩
       case measure => simp [intOf]; omega
     ·have hmi : decide ((M : Int) < 16) = false := decide_eq_false (by omega)
      have HM16 : Hid (¬ dn.length < 16) := Lib.hid (by rw [HM.out]; exact hm)
      go_wp2_with fail
      refine (refIsWord_any _ _ (hSub.out _ _)).mono ?_
      rintro e w' ⟨rfl, rfl⟩
      rw [HWB.out]
      go_wp2
      go_roundw
      case rel => exact ⟨k + 1, k + 1, v, dn ++ [x], by go_num, by rw [List.length_append, HM.out]; go_num, by go_num, by omega, by omega, by rw [List.length_append, HM.out]; simp; omega, Lib.hid (HA.out.full HX.out HM16.out HNX.out)⟩
      case measure => simp [intOf]; omega
   have hlt : k < s.size := by omega
   have hb255 := byte_le s k hlt
   by_cases hc : s[k].toNat = 44
   ·skip
    have hkk : ((k : Int) == s.size) = false := beq_eq_false_iff_ne.2 (by omega)
    have h44 : ((s[k].toNat : Int) == 44) = true := beq_iff_eq.2 (by omega)
    have HR2 : Hid (pieces s.data.toList = dn ++ (s.extract b k).data.toList :: piecesGo [] (s.data.toList.drop (k + 1))) := Lib.hid (by
     have h := HRE.out
     rw [drop_byte s k hlt, show s[k] = 44 from UInt8.toNat_inj.1 hc, piecesGo_comma] at h; exact h)
    have HNW : Hid (wordB (s.extract b k).data.toList = false → listR s = (zeroV, 40)) := Lib.hid fun hx => not_word HN.out hx HR2.out
    have HNX : Hid ((k + 1 ≤ s.size ∧ k + 1 ≤ k + 1 ∧ pieces s.data.toList = (dn ++ [(s.extract b k).data.toList]) ++ piecesGo ((s.data.toList.drop (k + 1)).take (k + 1 - (k + 1))) (s.data.toList.drop (k + 1))) ∨ (k + 1 = s.size + 1 ∧ pieces s.data.toList = dn ++ [(s.extract b k).data.toList])) := Lib.hid (Or.inl ⟨by omega, by omega, by rw [HR2.out]; simp⟩)
    clear hc
    obtain ⟨x, hx⟩ : ∃ x, (s.extract b k).data.toList = x := ⟨_, rfl⟩
    have hxe : s.extract b k = mkB x := by rw [← hx, mkB_self]
    have HT := Lib.hid hxe
    rw [hx] at HNW HNX
    have hxd : (s.extract b k).data.toList = x := hx
    clear HRE HR2 hx hxe
    cases hwb : wordB x with
    | false =>
     have HWB : Hid (wordB (s.extract b k).data.toList = false) := Lib.hid (by rw [hxd]; exact hwb)
     have HV := Lib.hid (HNW.out hwb)
     clear hwb HNW HNX hxd
     go_wp2_with fail
     refine (refIsWord_any _ _ (hSub.out _ _)).mono ?_
     rintro e w' ⟨rfl, rfl⟩
     rw [HWB.out]
     obtain ⟨c0, c1, c2, c3, z0, z1, z2, z3⟩ := HA.out.zero
     obtain ⟨g0, g1, g2, g3, hB4⟩ := HA.out.zero.last HA.out.below (Nat.le_refl _) (.int .i64 0) (.int .i64 0) (.string ⟨#[]⟩) (.slice none 0 0)
     have HB := Lib.hid hB4
     clear hB4
     go_wp2
     exact bodyPost_ret (v := .tuple #[.agg #[.int .i64 0, .int .i64 0, .string ⟨#[]⟩, .slice none 0 0], .int .i64 40]) (by simp [results, Tryz.results73, go_sem, g0, g1, g2, g3]) rfl (RefRes.of_num (by rw [HV.out]; rfl) (by rw [HV.out]; rfl) HB.out)
    | true =>
     have HWB : Hid (wordB (s.extract b k).data.toList = true) := Lib.hid (by rw [hxd]; exact hwb)
     have HX := Lib.hid hwb
     clear hwb HNW hxd
     by_cases hm : M < 16
     ·have HM16 : Hid (dn.length < 16) := Lib.hid (by rw [HM.out]; exact hm)
      have v3 := HA.out.box.c3
      have HVX : Hid (∀ o, ((wr.alloc o).drew).cell? ⟨w.heap.size + 1, 3, none⟩ = some v ∧ ((wr.alloc o).drew).frozen? ⟨w.heap.size + 1, 3, none⟩ = false) := Lib.hid fun o => ⟨(HA.out.box.below (((Below.refl _ _).alloc (Nat.le_refl _) o).drew)).c3, (HA.out.box.below (((Below.refl _ _).alloc (Nat.le_refl _) o).drew)).z3⟩
      have hlen : ((dn.take 16).map mkB).length + 1 ≤ 1000000 := by simp; omega
      have hVlt : w.heap.size + 1 < wr.heap.size := HA.out.box.lt
      have HO := Lib.hid (HA.out.own)
      have hsz := HA.out.size
      have hmi : decide ((M : Int) < 16) = true := decide_eq_true (by omega)
      go_wp2_with fail
      refine (refIsWord_any _ _ (hSub.out _ _)).mono ?_
      rintro e w' ⟨rfl, rfl⟩
      rw [HWB.out]
      go_wp2
      first
       | (go_region_law (refine stepS rfl _ _ rfl ((HO.out.alloc _).drew) (by simp; omega) rfl (s.extract b k) rfl (by simp) hlen ?_; intro v2 w2 ho2 hb2; obtain ⟨x2, n2, cap2, rfl⟩ := ho2.shape; have v3' : w2.cell? ⟨w.heap.size + 1, 3, none⟩ = some v := (hb2.cell (p := ⟨w.heap.size + 1, 3, none⟩) (by show w.heap.size + 1 < w.heap.size + 2; omega)).trans (HVX.out _).1; have y3' : w2.frozen? ⟨w.heap.size + 1, 3, none⟩ = false := (hb2.frozen (p := ⟨w.heap.size + 1, 3, none⟩) (by show w.heap.size + 1 < w.heap.size + 2; omega)).trans (HVX.out _).2))
       | (go_region_law (refine stepS rfl _ _ rfl ((HO.out.alloc _).drew) (by simp; omega) rfl (s.extract b k) rfl (by simp) hlen ?_; intro v2 w2 ho2 hb2; obtain ⟨x2, n2, cap2, rfl⟩ := ho2.shape; have v3' : w2.cell? ⟨w.heap.size + 1, 3, none⟩ = some v := (hb2.cell (p := ⟨w.heap.size + 1, 3, none⟩) (by show w.heap.size + 1 < w.heap.size + 2; omega)).trans (HVX.out _).1; have y3' : w2.frozen? ⟨w.heap.size + 1, 3, none⟩ = false := (hb2.frozen (p := ⟨w.heap.size + 1, 3, none⟩) (by show w.heap.size + 1 < w.heap.size + 2; omega)).trans (HVX.out _).2))
      all_goals
       rw [HT.out] at ho2
       have HNEW := Lib.hid (HA.out.more hb2 HX.out ho2 HM16.out HNX.out)
       clear ho2 hb2
       go_wp2
       go_roundw
       case rel => exact ⟨k + 1, k + 1, .slice x2 n2 cap2, dn ++ [x], by go_num, by rw [List.length_append, HM.out]; go_num, by go_num, by omega, by omega, by rw [List.length_append, HM.out]; simp; omega, HNEW⟩
       case measure => simp [intOf]; omega
     ·have hmi : decide ((M : Int) < 16) = false := decide_eq_false (by omega)
      have HM16 : Hid (¬ dn.length < 16) := Lib.hid (by rw [HM.out]; exact hm)
      go_wp2_with fail
      refine (refIsWord_any _ _ (hSub.out _ _)).mono ?_
      rintro e w' ⟨rfl, rfl⟩
      rw [HWB.out]
      go_wp2
      go_roundw
      case rel => exact ⟨k + 1, k + 1, v, dn ++ [x], by go_num, by rw [List.length_append, HM.out]; go_num, by go_num, by omega, by omega, by rw [List.length_append, HM.out]; simp; omega, Lib.hid (HA.out.full HX.out HM16.out HNX.out)⟩
      case measure => simp [intOf]; omega
   ·have hkk : ((k : Int) == s.size) = false := beq_eq_false_iff_ne.2 (by omega)
    have h44 : ((s[k].toNat : Int) == 44) = false := beq_eq_false_iff_ne.2 (by omega)
    have HNX : Hid ((k + 1 ≤ s.size ∧ b ≤ k + 1 ∧ pieces s.data.toList = dn ++ piecesGo ((s.data.toList.drop b).take (k + 1 - b)) (s.data.toList.drop (k + 1))) ∨ (k + 1 = s.size + 1 ∧ pieces s.data.toList = dn)) := Lib.hid (Or.inl ⟨by omega, by omega, by
     have h := HRE.out
     rw [str_extract, drop_byte s k hlt, piecesGo_cons (by intro e; rw [e] at hc; exact hc rfl)] at h
     rw [h, ← seg_more s.data.toList b k 1 hbk, drop_byte s k hlt]; rfl⟩)
    clear hc HRE
    go_wp2
    go_roundw
    case rel => exact ⟨b, k + 1, v, dn, rfl, by rw [HM.out], by go_num, by omega, by omega, by rw [HM.out]; omega, Lib.hid (HA.out.step HNX.out)⟩
    case measure => simp [intOf]; omega
  ·have hR : pieces s.data.toList = dn := by
    rcases HA.out.rest with ⟨h1, _⟩ | ⟨_, h2⟩
    ·omega
    ·exact h2
   have hP := all_words HN.out HA.out.words hR
   rw [HM.out] at hP
   have hdk2 : decide ((k : Int) ≤ s.size) = false := decide_eq_false (by omega)
   by_cases hm : 16 < M
   ·rw [if_pos (Or.inr hm)] at hP
    have HV := Lib.hid hP
    have hmi : decide (16 < (M : Int)) = true := decide_eq_true (by omega)
    clear hP hR
    obtain ⟨c0, c1, c2, c3, z0, z1, z2, z3⟩ := HA.out.zero
    obtain ⟨g0, g1, g2, g3, hB4⟩ := HA.out.zero.last HA.out.below (Nat.le_refl _) (.int .i64 0) (.int .i64 0) (.string ⟨#[]⟩) (.slice none 0 0)
    have HB := Lib.hid hB4
    clear hB4
    go_wp2
    exact bodyPost_ret (v := .tuple #[.agg #[.int .i64 0, .int .i64 0, .string ⟨#[]⟩, .slice none 0 0], .int .i64 42]) (by simp [results, Tryz.results73, go_sem, g0, g1, g2, g3]) rfl (RefRes.of_num (by rw [HV.out]; rfl) (by rw [HV.out]; rfl) HB.out)
   have hmi : decide (16 < (M : Int)) = false := decide_eq_false (by omega)
   by_cases hl : 200 < s.size
   ·rw [if_pos (Or.inl hl)] at hP
    have HV := Lib.hid hP
    have hli : decide (200 < (s.size : Int)) = true := decide_eq_true (by omega)
    clear hP hR
    obtain ⟨c0, c1, c2, c3, z0, z1, z2, z3⟩ := HA.out.zero
    obtain ⟨g0, g1, g2, g3, hB4⟩ := HA.out.zero.last HA.out.below (Nat.le_refl _) (.int .i64 0) (.int .i64 0) (.string ⟨#[]⟩) (.slice none 0 0)
    have HB := Lib.hid hB4
    clear hB4
    go_wp2
    exact bodyPost_ret (v := .tuple #[.agg #[.int .i64 0, .int .i64 0, .string ⟨#[]⟩, .slice none 0 0], .int .i64 42]) (by simp [results, Tryz.results73, go_sem, g0, g1, g2, g3]) rfl (RefRes.of_num (by rw [HV.out]; rfl) (by rw [HV.out]; rfl) HB.out)
   have hli : decide (200 < (s.size : Int)) = false := decide_eq_false (by omega)
   rw [if_neg (by omega)] at hP
   have HV := Lib.hid hP
   clear hP hR
   obtain ⟨x, cap, hv, hcap, _, _⟩ := HA.out.own.txts
   obtain ⟨L, hL⟩ : ∃ L, ((dn.take 16).map mkB).length = L := ⟨_, rfl⟩
   have HL := Lib.hid hL
   rw [hL] at hv hcap
   have HCAP := Lib.hid hcap
   subst hv
   have HO : Hid (∃ x' cap', Value.slice x L cap = .slice x' ((dn.take 16).map mkB).length cap' ∧ ((dn.take 16).map mkB).length ≤ cap' ∧ Txts (set4 wr w.heap.size (.int .i64 6) (.int .i64 0) (.string ⟨#[]⟩) (.slice x L cap)) x' ((dn.take 16).map mkB) ∧ ∀ b off, x' = some ⟨b, off, none⟩ → w.heap.size + 2 ≤ b) := Lib.hid (HA.out.own.set4 (by omega) _ _ _ _).txts
   clear hL hcap
   obtain ⟨b0, b1, b2, b3, _, _, _, _⟩ := HA.out.box
   obtain ⟨c0, c1, c2, c3, z0, z1, z2, z3⟩ := HA.out.zero
   obtain ⟨g0, g1, g2, g3, hB4⟩ := HA.out.zero.last HA.out.below (Nat.le_refl _) (.int .i64 6) (.int .i64 0) (.string ⟨#[]⟩) (.slice x L cap)
   have HB := Lib.hid hB4
   clear hB4
   go_wp2
   exact bodyPost_ret (v := .tuple #[.agg #[.int .i64 6, .int .i64 0, .string ⟨#[]⟩, .slice x L cap], .int .i64 0]) (by simp [results, Tryz.results73, go_sem, g0, g1, g2, g3]) rfl ⟨HB.out, x, cap, ret_val (by rw [HV.out, ← HL.out]), by rw [HV.out]; show ((dn.take 16).map mkB).length ≤ cap; rw [HL.out]; exact HCAP.out, by
    obtain ⟨x', cap', h1, h2, h3, h7⟩ := HO.out
    injection h1 with h4 h5 h6
    subst h4
    rw [HV.out]
    exact ⟨h3, fun b off e => by have := h7 b off e; omega⟩⟩
end Go.Proofs.YtlcgfdijohgnpaaGreatDoor

namespace Go.Proofs.YtlcgfdijohgnpaaGreatDoor
open Go.ChangeShapes Go.WideShapes Go.ChangeAt Go.RowKit

theorem Txts.set4 {w : World} {x : Option Addr} {xs : List ByteArray} (h : Txts w x xs) {R : Nat} (hR : ∀ b off, x = some ⟨b, off, none⟩ → b ≠ R) (a b c d : Value) : Txts (Go.Proofs.YtlcgfdijohgnpaaGreatDoor.set4 w R a b c d) x xs := fun k hk => by
 obtain ⟨g, off, e, hl, hc⟩ := h k hk
 refine ⟨g, off, e, ?_, ?_⟩
 ·rcases Nat.lt_or_ge g (Go.Proofs.YtlcgfdijohgnpaaGreatDoor.set4 w R a b c d).heap.size with h1 | h1
  ·exact h1
  ·have := set4_block w (hR g off e) a b c d
   rw [Array.getElem?_eq_none h1, Array.getElem?_eq_getElem hl] at this; cases this
 ·rw [World.cell?_of_block (w := w) (a := ⟨g, off + k, none⟩) (set4_block w (hR g off e) a b c d)]; exact hc

set_option maxHeartbeats 3200000 in
set_option maxRecDepth 100000 in
theorem refParse_any (k : Int) (s : ByteArray) (w : World) (hs : s.size ≤ 2147483647) :
  Calls Tryz.prog 40 #[.int .i64 k, .string s] w (RefRes w (parseV k s)) := by
 have hb0 : Hid (∀ t, Below w.heap.size w (w.alloc (.cells #[.int .i64 0, .int .i64 0, .string ⟨#[]⟩, .slice none 0 0] t))) := Lib.hid fun t => (Below.refl _ _).alloc (Nat.le_refl _) _
 have HS : Hid (s.size ≤ maxLen) := Lib.hid (by unfold maxLen; omega)
 have HS2 := Lib.hid hs
 clear hs
 by_cases h1 : k = 1
 ·subst h1
  by_cases q0 : s.data.toList = [116, 114, 117, 101]
  ·obtain rfl := eq_text q0
   have HP : Hid (parseV 1 (mkB [116, 114, 117, 101]) = (⟨1, 1, ⟨#[]⟩, []⟩, 0)) := Lib.hid rfl
   clear q0
   go_enter Tryz.func40, Tryz.ntmps40
   unfold mkB at HP ⊢
   go_wp2
   exact bodyPost_ret (v := .tuple #[.agg #[.int .i64 1, .int .i64 1, .string ⟨#[]⟩, .slice none 0 0], .int .i64 0]) (by simp [results, Tryz.results40, go_sem]) rfl (RefRes.of_num (by rw [HP.out]; try rfl) (by rw [HP.out]; try rfl) ((Below.refl _ _).alloc (Nat.le_refl _) _))
  by_cases q1 : s.data.toList = [121, 101, 115]
  ·obtain rfl := eq_text q1
   have HP : Hid (parseV 1 (mkB [121, 101, 115]) = (⟨1, 1, ⟨#[]⟩, []⟩, 0)) := Lib.hid rfl
   clear q1
   go_enter Tryz.func40, Tryz.ntmps40
   unfold mkB at HP ⊢
   go_wp2
   exact bodyPost_ret (v := .tuple #[.agg #[.int .i64 1, .int .i64 1, .string ⟨#[]⟩, .slice none 0 0], .int .i64 0]) (by simp [results, Tryz.results40, go_sem]) rfl (RefRes.of_num (by rw [HP.out]; try rfl) (by rw [HP.out]; try rfl) ((Below.refl _ _).alloc (Nat.le_refl _) _))
  by_cases q2 : s.data.toList = [111, 110]
  ·obtain rfl := eq_text q2
   have HP : Hid (parseV 1 (mkB [111, 110]) = (⟨1, 1, ⟨#[]⟩, []⟩, 0)) := Lib.hid rfl
   clear q2
   go_enter Tryz.func40, Tryz.ntmps40
   unfold mkB at HP ⊢
   go_wp2
   exact bodyPost_ret (v := .tuple #[.agg #[.int .i64 1, .int .i64 1, .string ⟨#[]⟩, .slice none 0 0], .int .i64 0]) (by simp [results, Tryz.results40, go_sem]) rfl (RefRes.of_num (by rw [HP.out]; try rfl) (by rw [HP.out]; try rfl) ((Below.refl _ _).alloc (Nat.le_refl _) _))
  by_cases q3 : s.data.toList = [102, 97, 108, 115, 101]
  ·obtain rfl := eq_text q3
   have HP : Hid (parseV 1 (mkB [102, 97, 108, 115, 101]) = (⟨1, 0, ⟨#[]⟩, []⟩, 0)) := Lib.hid rfl
   clear q3
   go_enter Tryz.func40, Tryz.ntmps40
   unfold mkB at HP ⊢
   go_wp2
   exact bodyPost_ret (v := .tuple #[.agg #[.int .i64 1, .int .i64 0, .string ⟨#[]⟩, .slice none 0 0], .int .i64 0]) (by simp [results, Tryz.results40, go_sem]) rfl (RefRes.of_num (by rw [HP.out]; try rfl) (by rw [HP.out]; try rfl) ((Below.refl _ _).alloc (Nat.le_refl _) _))
  by_cases q4 : s.data.toList = [110, 111]
  ·obtain rfl := eq_text q4
   have HP : Hid (parseV 1 (mkB [110, 111]) = (⟨1, 0, ⟨#[]⟩, []⟩, 0)) := Lib.hid rfl
   clear q4
   go_enter Tryz.func40, Tryz.ntmps40
   unfold mkB at HP ⊢
   go_wp2
   exact bodyPost_ret (v := .tuple #[.agg #[.int .i64 1, .int .i64 0, .string ⟨#[]⟩, .slice none 0 0], .int .i64 0]) (by simp [results, Tryz.results40, go_sem]) rfl (RefRes.of_num (by rw [HP.out]; try rfl) (by rw [HP.out]; try rfl) ((Below.refl _ _).alloc (Nat.le_refl _) _))
  by_cases q5 : s.data.toList = [111, 102, 102]
  ·obtain rfl := eq_text q5
   have HP : Hid (parseV 1 (mkB [111, 102, 102]) = (⟨1, 0, ⟨#[]⟩, []⟩, 0)) := Lib.hid rfl
   clear q5
   go_enter Tryz.func40, Tryz.ntmps40
   unfold mkB at HP ⊢
   go_wp2
   exact bodyPost_ret (v := .tuple #[.agg #[.int .i64 1, .int .i64 0, .string ⟨#[]⟩, .slice none 0 0], .int .i64 0]) (by simp [results, Tryz.results40, go_sem]) rfl (RefRes.of_num (by rw [HP.out]; try rfl) (by rw [HP.out]; try rfl) ((Below.refl _ _).alloc (Nat.le_refl _) _))
  have HP : Hid (parseV 1 s = (zeroV, 40)) := Lib.hid (by rw [parse1, boolV, if_neg (by rintro (h | h | h) <;> contradiction), if_neg (by rintro (h | h | h) <;> contradiction)]; rfl)
  have e0 := ne_text q0
  have e1 := ne_text q1
  have e2 := ne_text q2
  have e3 := ne_text q3
  have e4 := ne_text q4
  have e5 := ne_text q5
  clear q0 q1 q2 q3 q4 q5
  go_enter Tryz.func40, Tryz.ntmps40
  go_wp2
  exact bodyPost_ret (v := .tuple #[.agg #[.int .i64 0, .int .i64 0, .string ⟨#[]⟩, .slice none 0 0], .int .i64 40]) (by simp [results, Tryz.results40, go_sem]) rfl (RefRes.of_num (by rw [HP.out]; try rfl) (by rw [HP.out]; try rfl) ((Below.refl _ _).alloc (Nat.le_refl _) _))
 by_cases h2 : k = 2
 ·subst h2
  have hw : (parseV 2 s).1.words = [] := by rw [parse2]; exact intOk_words _ _
  obtain ⟨p, hp⟩ : ∃ p, parseV 2 s = p := ⟨_, rfl⟩
  have HP := Lib.hid hp
  have HP2 := Lib.hid ((parse2 s).symm.trans hp)
  rw [hp] at hw
  obtain ⟨⟨pk, pn, pt, pw⟩, pe⟩ := p
  simp only at hw
  subst hw
  clear hp
  go_enter Tryz.func40, Tryz.ntmps40
  go_wp2_with fail
  refine (refWhole_any _ _ HS.out).mono ?_
  rintro e w1 ⟨rfl, hb⟩
  rw [HP2.out]
  unfold numR
  have HZ : zero4 w1 w.heap.size := (box4_new w _ _ _ _ _).below hb
  have HZZ := Lib.hid (HZ.last ((hb0.out 37).trans (hb.mono (hb0.out 37).size)) (Nat.le_refl _))
  clear hb
  obtain ⟨c0, c1, c2, c3, z0, z1, z2, z3⟩ := HZ
  obtain ⟨g0, g1, g2, g3, hB4⟩ := HZZ.out (.int .i64 pk) (.int .i64 pn) (.string pt) (.slice none 0 0)
  have HB := Lib.hid hB4
  clear hB4
  go_wp2
  exact bodyPost_ret (v := .tuple #[.agg #[.int .i64 pk, .int .i64 pn, .string pt, .slice none 0 0], .int .i64 pe]) (by simp [results, Tryz.results40, go_sem, g0, g1, g2, g3]) rfl (RefRes.of_num (by rw [HP.out]) (by rw [HP.out]; rfl) HB.out)
 by_cases h3 : k = 3
 ·subst h3
  have hw : (parseV 3 s).1.words = [] := by rw [parse3]; exact intOk_words _ _
  obtain ⟨p, hp⟩ : ∃ p, parseV 3 s = p := ⟨_, rfl⟩
  have HP := Lib.hid hp
  have HP2 := Lib.hid ((parse3 s).symm.trans hp)
  rw [hp] at hw
  obtain ⟨⟨pk, pn, pt, pw⟩, pe⟩ := p
  simp only at hw
  subst hw
  clear hp
  go_enter Tryz.func40, Tryz.ntmps40
  go_wp2_with fail
  refine (united3_any _ _ HS.out).mono ?_
  rintro e w1 ⟨rfl, hb⟩
  rw [HP2.out]
  unfold numR
  have HZ : zero4 w1 w.heap.size := (box4_new w _ _ _ _ _).below hb
  have HZZ := Lib.hid (HZ.last ((hb0.out 37).trans (hb.mono (hb0.out 37).size)) (Nat.le_refl _))
  clear hb
  obtain ⟨c0, c1, c2, c3, z0, z1, z2, z3⟩ := HZ
  obtain ⟨g0, g1, g2, g3, hB4⟩ := HZZ.out (.int .i64 pk) (.int .i64 pn) (.string pt) (.slice none 0 0)
  have HB := Lib.hid hB4
  clear hB4
  go_wp2
  exact bodyPost_ret (v := .tuple #[.agg #[.int .i64 pk, .int .i64 pn, .string pt, .slice none 0 0], .int .i64 pe]) (by simp [results, Tryz.results40, go_sem, g0, g1, g2, g3]) rfl (RefRes.of_num (by rw [HP.out]) (by rw [HP.out]; rfl) HB.out)
 by_cases h4 : k = 4
 ·subst h4
  have hw : (parseV 4 s).1.words = [] := by rw [parse4]; exact intOk_words _ _
  obtain ⟨p, hp⟩ : ∃ p, parseV 4 s = p := ⟨_, rfl⟩
  have HP := Lib.hid hp
  have HP2 := Lib.hid ((parse4 s).symm.trans hp)
  rw [hp] at hw
  obtain ⟨⟨pk, pn, pt, pw⟩, pe⟩ := p
  simp only at hw
  subst hw
  clear hp
  go_enter Tryz.func40, Tryz.ntmps40
  go_wp2_with fail
  refine (united4_any _ _ HS.out).mono ?_
  rintro e w1 ⟨rfl, hb⟩
  rw [HP2.out]
  unfold numR
  have HZ : zero4 w1 w.heap.size := (box4_new w _ _ _ _ _).below hb
  have HZZ := Lib.hid (HZ.last ((hb0.out 37).trans (hb.mono (hb0.out 37).size)) (Nat.le_refl _))
  clear hb
  obtain ⟨c0, c1, c2, c3, z0, z1, z2, z3⟩ := HZ
  obtain ⟨g0, g1, g2, g3, hB4⟩ := HZZ.out (.int .i64 pk) (.int .i64 pn) (.string pt) (.slice none 0 0)
  have HB := Lib.hid hB4
  clear hB4
  go_wp2
  exact bodyPost_ret (v := .tuple #[.agg #[.int .i64 pk, .int .i64 pn, .string pt, .slice none 0 0], .int .i64 pe]) (by simp [results, Tryz.results40, go_sem, g0, g1, g2, g3]) rfl (RefRes.of_num (by rw [HP.out]) (by rw [HP.out]; rfl) HB.out)
 by_cases h5 : k = 5
 ·subst h5
  have hw : (parseV 5 s).1.words = [] := by rw [parse5]; exact textR_words _
  obtain ⟨p, hp⟩ : ∃ p, parseV 5 s = p := ⟨_, rfl⟩
  have HP := Lib.hid hp
  have HP2 := Lib.hid ((parse5 s).symm.trans hp)
  rw [hp] at hw
  obtain ⟨⟨pk, pn, pt, pw⟩, pe⟩ := p
  simp only at hw
  subst hw
  clear hp
  go_enter Tryz.func40, Tryz.ntmps40
  go_wp2_with fail
  refine (refText_any _ _ HS.out).mono ?_
  rintro e w1 ⟨rfl, hb⟩
  rw [HP2.out]
  unfold numR
  have HZ : zero4 w1 w.heap.size := (box4_new w _ _ _ _ _).below hb
  have HZZ := Lib.hid (HZ.last ((hb0.out 37).trans (hb.mono (hb0.out 37).size)) (Nat.le_refl _))
  clear hb
  obtain ⟨c0, c1, c2, c3, z0, z1, z2, z3⟩ := HZ
  obtain ⟨g0, g1, g2, g3, hB4⟩ := HZZ.out (.int .i64 pk) (.int .i64 pn) (.string pt) (.slice none 0 0)
  have HB := Lib.hid hB4
  clear hB4
  go_wp2
  exact bodyPost_ret (v := .tuple #[.agg #[.int .i64 pk, .int .i64 pn, .string pt, .slice none 0 0], .int .i64 pe]) (by simp [results, Tryz.results40, go_sem, g0, g1, g2, g3]) rfl (RefRes.of_num (by rw [HP.out]) (by rw [HP.out]; rfl) HB.out)
 by_cases h6 : k = 6
 ·subst h6
  obtain ⟨p, hp⟩ : ∃ p, parseV 6 s = p := ⟨_, rfl⟩
  have HP := Lib.hid hp
  have HP2 := Lib.hid ((parse6 s).symm.trans hp)
  obtain ⟨⟨pk, pn, pt, pw⟩, pe⟩ := p
  clear hp
  go_enter Tryz.func40, Tryz.ntmps40
  go_wp2_with fail
  refine (refWords_any _ _ HS2.out).mono ?_
  rintro e w1 ⟨hb, x, cap, rfl, hcap, hO, hfar⟩
  rw [HP2.out] at hO hcap ⊢
  simp only at hO hcap ⊢
  have HZ : zero4 w1 w.heap.size := (box4_new w _ _ _ _ _).below hb
  have HZZ := Lib.hid (HZ.last ((hb0.out 37).trans (hb.mono (hb0.out 37).size)) (Nat.le_refl _))
  have HO : Hid (Txts (set4 w1 w.heap.size (.int .i64 pk) (.int .i64 pn) (.string pt) (.slice x pw.length cap)) x pw ∧ pw.length ≤ cap) := Lib.hid ⟨hO.set4 (fun b off e => by have := hfar b off e; simp at this; omega) _ _ _ _, hcap⟩
  have HF : Hid (∀ b off, x = some ⟨b, off, none⟩ → w.heap.size ≤ b) := Lib.hid (fun b off e => by have := hfar b off e; simp at this; omega)
  clear hb hO hcap hfar
  obtain ⟨c0, c1, c2, c3, z0, z1, z2, z3⟩ := HZ
  obtain ⟨g0, g1, g2, g3, hB4⟩ := HZZ.out (.int .i64 pk) (.int .i64 pn) (.string pt) (.slice x pw.length cap)
  have HB := Lib.hid hB4
  clear hB4
  go_wp2
  exact bodyPost_ret (v := .tuple #[.agg #[.int .i64 pk, .int .i64 pn, .string pt, .slice x pw.length cap], .int .i64 pe]) (by simp [results, Tryz.results40, go_sem, g0, g1, g2, g3]) rfl ⟨HB.out, x, cap, by rw [HP.out], by rw [HP.out]; exact HO.out.2, by rw [HP.out]; exact HO.out.1, HF.out⟩
 have HP := Lib.hid (parse0 h1 h2 h3 h4 h5 h6 s)
 have e1 : (k == 1) = false := beq_eq_false_iff_ne.2 h1
 have e2 : (k == 2) = false := beq_eq_false_iff_ne.2 h2
 have e3 : (k == 3) = false := beq_eq_false_iff_ne.2 h3
 have e4 : (k == 4) = false := beq_eq_false_iff_ne.2 h4
 have e5 : (k == 5) = false := beq_eq_false_iff_ne.2 h5
 have e6 : (k == 6) = false := beq_eq_false_iff_ne.2 h6
 clear h1 h2 h3 h4 h5 h6
 go_enter Tryz.func40, Tryz.ntmps40
 go_wp2
 exact bodyPost_ret (v := .tuple #[.agg #[.int .i64 0, .int .i64 0, .string ⟨#[]⟩, .slice none 0 0], .int .i64 1]) (by simp [results, Tryz.results40, go_sem]) rfl (RefRes.of_num (by rw [HP.out]; try rfl) (by rw [HP.out]; try rfl) ((Below.refl _ _).alloc (Nat.le_refl _) _))
end Go.Proofs.YtlcgfdijohgnpaaGreatDoor
