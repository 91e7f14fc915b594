/-
  ValueLib.
-/
import Derived.Test.YtbgoooljkdjjhaaGreatDoorQValueRead
import Derived.Test.YtbgoooljkdjjhaaGreatDoorShelf
import Derived.WalkSmall
import Derived.Sort.Grow
import Derived.Lib.LaidTab
namespace Go.Proofs.YtbgoooljkdjjhaaGreatDoor
open Go.ChangeShapes Go.WideShapes Go.ChangeAt Go.RowKit

/-- A list of texts in memory. -/
def Txts (w : World) (x : Option Addr) (xs : List ByteArray) : Prop :=
  ∀ k (h : k < xs.length), ∃ b off, x = some ⟨b, off, none⟩ ∧ b < w.heap.size ∧ w.cell? ⟨b, off + k, none⟩ = some (.string xs[k])
theorem Txts.nil_ (w : World) (x : Option Addr) : Txts w x [] := fun k h => absurd h (by simp)
theorem Txts.below {w w' : World} {x : Option Addr} {xs : List ByteArray} (h : Txts w x xs) (hb : Below w.heap.size w w') : Txts w' x xs := fun k hk => by
  obtain ⟨b, off, e, hl, hc⟩ := h k hk
  exact ⟨b, off, e, Nat.lt_of_lt_of_le hl hb.size, by rw [hb.cell (p := ⟨b, off + k, none⟩) hl]; exact hc⟩
theorem Txts.one {w : World} {x : Option Addr} {xs : List ByteArray} (h : Txts w x xs) (hn : 0 < xs.length) :
    ∃ b off, x = some ⟨b, off, none⟩ ∧ b < w.heap.size ∧ ∀ k (hk : k < xs.length), w.cell? ⟨b, off + k, none⟩ = some (.string xs[k]) := by
  obtain ⟨b, off, e, hl, _⟩ := h 0 hn
  refine ⟨b, off, e, hl, fun k hk => ?_⟩
  obtain ⟨b', off', e', _, hc⟩ := h k hk
  rw [e] at e'
  obtain ⟨rfl, rfl⟩ : b = b' ∧ off = off' := by simpa using e'
  exact hc

theorem below_drewN (w : World) (n : Nat) : Below w.heap.size w (w.drewN n) := ⟨rfl, rfl, rfl, Nat.le_refl _, fun _ _ => rfl⟩
theorem below_grow (w : World) (os : Array Obj) : Below w.heap.size w (Go.Sort.grow w os) := by
  refine ⟨rfl, rfl, rfl, by simp, fun k hk => ?_⟩
  show (w.heap ++ os)[k]? = w.heap[k]?
  rw [Array.getElem?_append, if_pos hk]

theorem cut_any (s : ByteArray) (w : World) :
    Calls Tryz.prog 133 #[.string s, .string ⟨#[45]⟩] w fun e w' => e = .returned (.tuple #[.string (mkB (unsg s.data.toList)), .bool (negOf s.data.toList)]) ∧ w = w' :=
  (Any.strings_CutPrefix Tryz.lays103 s ⟨#[45]⟩ w).mono fun e w' ⟨he, hw⟩ => by
    refine ⟨?_, hw.symm⟩
    rw [he]
    have h1 : Lib.hasPrefix s.data.toList [45] = negOf s.data.toList := by
      cases s.data.toList with
      | nil => rfl
      | cons c r => show ((45 : UInt8) == c && true) = (c == 45); rw [Bool.and_true, BEq.comm]
    have h2 : Lib.trimPrefix s.data.toList [45] = unsg s.data.toList := by
      unfold Lib.trimPrefix unsg
      rw [h1]; rfl
    show Ending.returned (.tuple #[.string ⟨(Lib.trimPrefix s.data.toList [45]).toArray⟩, .bool (Lib.hasPrefix s.data.toList [45])]) = _
    rw [h1, h2]; rfl

theorem clone_inner (s : ByteArray) (w : World) (h : s.size ≤ 281474976710656) :
    Calls Tryz.prog 71 #[.string s] w fun e w' => e = .returned (.string s) ∧ Below w.heap.size w w' :=
  Any.stringslite_Clone Tryz.laysM316 s w h
theorem clone_any (s : ByteArray) (w : World) (h : s.size ≤ 281474976710656) :
    Calls Tryz.prog 45 #[.string s] w fun e w' => e = .returned (.string s) ∧ Below w.heap.size w w' := by
  go_enter Tryz.func45, Tryz.ntmps45
  go_wp2_with fail
  refine (clone_inner _ _ h).mono ?_
  rintro e w' ⟨rfl, hb⟩
  go_wp2
  go_ret
  exact ⟨rfl, hb⟩

theorem join_any (w : World) (x : Option Addr) (cap : Nat) (xs : List ByteArray) (hx : Txts w x xs) (hc : xs.length ≤ cap) (hn : xs.length ≤ 16) (hl : (joinW xs).length ≤ 140737488355328) :
    Calls Tryz.prog 161 #[.slice x xs.length cap, .string ⟨#[44]⟩] w fun e w' => e = .returned (.string (mkB (joinW xs))) ∧ Below w.heap.size w w' := by
  rcases Nat.eq_zero_or_pos xs.length with h0 | h0
  · obtain rfl := List.eq_nil_of_length_eq_zero h0
    exact (Any.strings_Join_none Tryz.lays156 Tryz.Builder_Extra_156 x cap ⟨#[44]⟩ w).mono fun _ _ ⟨he, hw⟩ => ⟨he, hw ▸ Below.refl _ _⟩
  · obtain ⟨b, off, rfl, hb, hcell⟩ := hx.one h0
    refine Any.strings_Join Tryz.lays156 Tryz.Builder_Extra_156 b off cap xs ⟨#[44]⟩ w (fun j u hj => ?_) hb (by omega) hc hl
    obtain ⟨hj1, rfl⟩ := List.getElem?_eq_some_iff.1 hj
    exact hcell j hj1

theorem countB_one (l : List UInt8) : Lib.countByte l 44 = l.count 44 := rfl
theorem count_any (s : ByteArray) (w : World) :
    Calls Tryz.prog 119 #[.string s, .string ⟨#[44]⟩] w fun e w' => e = .returned (.int .i64 (s.data.toList.count 44)) ∧ w = w' :=
  (Any.strings_Count_one Tryz.lays138 s 44 w).mono fun _ _ ⟨he, hw⟩ => ⟨he, hw.symm⟩

/-- The variable 'MaxLen' of the library's search holds some integer. -/
def MaxI (w : World) : Prop := ∃ m : Int, w.cell? ⟨4, 0, none⟩ = some (.int .i64 m)
def sep44 : ByteArray := ⟨#[44]⟩

/-! What is cut at commas -/
theorem pieces_pos (l : List UInt8) : pieces l ≠ [] := by
  cases l with
  | nil => simp [pieces]
  | cons c r =>
    rw [pieces]; split
    · simp
    · split <;> simp
theorem pieces_comma (r : List UInt8) : pieces (44 :: r) = [] :: pieces r := by rw [pieces, if_pos rfl]
theorem pieces_cons {c : UInt8} {r : List UInt8} (h : c ≠ 44) : ∃ p ps, pieces r = p :: ps ∧ pieces (c :: r) = (c :: p) :: ps := by
  cases hp : pieces r with
  | nil => exact absurd hp (pieces_pos r)
  | cons p ps => exact ⟨p, ps, rfl, by rw [pieces, if_neg h, hp]⟩
theorem pieces_count (l : List UInt8) : (pieces l).length = l.count 44 + 1 := by
  induction l with
  | nil => rfl
  | cons c r ih =>
    by_cases h : c = 44
    · subst h; rw [pieces_comma]; simp [ih]
    · obtain ⟨p, ps, h1, h2⟩ := pieces_cons (r := r) h
      rw [h2, List.count_cons_of_ne (by simpa using h), ← ih, h1]; simp
theorem index_cons (c : UInt8) (l : List UInt8) : Lib.index (c :: l) [44] = if c = 44 then 0 else if Lib.index l [44] = -1 then -1 else Lib.index l [44] + 1 := by
  by_cases h : c = 44
  · subst h; rw [Lib.index]; simp [List.isPrefixOf]
  · have hp : ([44] : List UInt8).isPrefixOf (c :: l) = false := by simp [List.isPrefixOf, Ne.symm h]
    rw [Lib.index, hp, if_neg h]; simp
theorem splitK_comma (k : Nat) (r : List UInt8) : Lib.splitK [44] 0 (k + 1) (44 :: r) = [] :: Lib.splitK [44] 0 k r := by
  rw [Lib.splitK, index_cons, if_pos rfl]; simp
theorem splitK_cons {c : UInt8} (h : c ≠ 44) (k : Nat) (r : List UInt8) : ∃ p ps, Lib.splitK [44] 0 k r = p :: ps ∧ Lib.splitK [44] 0 k (c :: r) = (c :: p) :: ps := by
  cases k with
  | zero => exact ⟨r, [], rfl, rfl⟩
  | succ k =>
    have hi := index_cons c r
    rw [if_neg h] at hi
    by_cases hm : Lib.index r [44] = -1
    · rw [if_pos hm] at hi
      exact ⟨r, [], by rw [Lib.splitK, hm]; rfl, by rw [Lib.splitK, hi]; rfl⟩
    · rw [if_neg hm] at hi
      have hge := Lib.index_ge r [44]
      obtain ⟨j, hj⟩ : ∃ j : Nat, Lib.index r [44] = j := ⟨(Lib.index r [44]).toNat, by omega⟩
      rw [hj] at hi
      refine ⟨r.take j, Lib.splitK [44] 0 k (r.drop (j + 1)), ?_, ?_⟩
      · rw [Lib.splitK, hj, if_neg (by simp)]
        have : ((j : Int)).toNat = j := by omega
        rw [this]; simp
      · rw [Lib.splitK, hi, if_neg (by simp; omega)]
        have : ((j : Int) + 1).toNat = j + 1 := by omega
        rw [this]; simp
theorem split_pieces (l : List UInt8) : Lib.splitK [44] 0 (l.count 44) l = pieces l := by
  induction l with
  | nil => rfl
  | cons c r ih =>
    by_cases h : c = 44
    · subst h; rw [List.count_cons_self, splitK_comma, ih, pieces_comma]
    · rw [List.count_cons_of_ne (by simpa using h)]
      obtain ⟨p, ps, h1, h2⟩ := splitK_cons h (r.count 44) r
      obtain ⟨p', ps', h3, h4⟩ := pieces_cons (r := r) h
      rw [h2, h4]
      rw [ih, h3] at h1
      obtain ⟨rfl, rfl⟩ : p' = p ∧ ps' = ps := by simpa using h1
      rfl
theorem countB_44 (s : ByteArray) : Lib.countB s sep44 = s.data.toList.count 44 := by
  show Lib.count s.data.toList [44] = _
  exact Lib.count_one 44 _
theorem map_mkB (l : List ByteArray) : (l.map (·.data.toList)).map mkB = l := by
  rw [List.map_map]
  conv => rhs; rw [← List.map_id l]
  exact List.map_congr_left fun b _ => mkB_self b
theorem split_words (s : ByteArray) : Lib.splitB sep44 0 (Lib.countB s sep44) s = (pieces s.data.toList).map mkB := by
  rw [← split_pieces, ← countB_44, ← map_mkB (Lib.splitB sep44 0 (Lib.countB s sep44) s), Lib.splitB_data]
  rfl

theorem infoStr : (Tryz.prog.info? 9).map (fun i => (i.zero, i.size, i.bytes)) = some (some (.string ByteArray.empty), 1, 16) := by kernel_rfl
/-- 'strings.Split' at a comma. -/
theorem split_any (s : ByteArray) (w : World) (hs : s.size ≤ 200) (hm : MaxI w) :
    Calls Tryz.prog 140 #[.string s, .string ⟨#[44]⟩] w fun e w' => e = .returned (.slice (some ⟨w.heap.size, 0, none⟩) (pieces s.data.toList).length (pieces s.data.toList).length) ∧ w' = w.alloc (.cells (((pieces s.data.toList).map mkB).map Value.string).toArray 9) := by
  obtain ⟨m, hm⟩ := hm
  refine (Any.strings_Split Tryz.lays146 infoStr s sep44 m w (by omega) hm (by decide)).mono fun e w' ⟨he, hw⟩ => ⟨?_, ?_⟩
  · rw [he, countB_44, pieces_count]
  · rw [hw, split_words]; rfl
end Go.Proofs.YtbgoooljkdjjhaaGreatDoor
