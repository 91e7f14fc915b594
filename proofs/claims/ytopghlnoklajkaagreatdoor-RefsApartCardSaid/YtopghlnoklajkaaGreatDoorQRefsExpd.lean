/-
  TxOwned, RefsExpd.
-/
import Derived.Test.YtopghlnoklajkaaGreatDoorQTxKit
import Derived.Test.YtopghlnoklajkaaGreatDoorQRowOps
import Derived.Test.YtopghlnoklajkaaGreatDoorQBytes
import Derived.Deep.RegionHeld3
import Derived.Deep.AppendLies
import Derived.IntWalk
import Derived.Test.YtopghlnoklajkaaGreatDoorQRefsSpW
import Derived.Test.YtopghlnoklajkaaGreatDoorQLayGet
import Derived.Test.YtopghlnoklajkaaGreatDoorQValuePrint
namespace Go.Proofs.YtopghlnoklajkaaGreatDoor
open Go.ChangeShapes Go.WideShapes Go.ChangeAt Go.RowKit

/-- The mark of an owner. -/
def markR (i : Nat) : ByteArray := ⟨#[109, UInt8.ofNat i]⟩
def mkR (i : Nat) : List Value := [.string (markR i)]
/-- A block with lists in it. -/
def LBR (N : Nat) (w : World) (L : Nat) (V : Nat → Value) : Prop := ∃ cur, w.heap[L]? = some (Obj.cells cur 24 (0, 0)) ∧ ∀ k, k < N → cur[k]? = some (V k)
theorem LBR.lt {N : Nat} {w : World} {L : Nat} {V : Nat → Value} (h : LBR N w L V) : L < w.heap.size := by obtain ⟨_, h, _⟩ := h; exact heap_lt h
theorem LBR.cell {N : Nat} {w : World} {L : Nat} {V : Nat → Value} (h : LBR N w L V) {k : Nat} (hk : k < N) : w.cell? ⟨L, k, none⟩ = some (V k) := by
  obtain ⟨cur, h, hc⟩ := h
  rw [cell_of_row w L k cur _ _ h]; exact hc k hk
theorem LBR.below {N : Nat} {w w' : World} {L : Nat} {V : Nat → Value} (h : LBR N w L V) (hb : Below w.heap.size w w') : LBR N w' L V := by
  have hl := h.lt
  obtain ⟨cur, h, hc⟩ := h
  exact ⟨cur, by rw [hb.block L hl]; exact h, hc⟩
/-- A list as a value. -/
def lvR (X : Nat → Option Addr) (F : Nat → List ByteArray) (C : Nat → Nat) (k : Nat) : Value := .slice (X k) (F k).length (C k)
/-- The lists that came out, and as they should read. -/
structure CameR (N B : Nat) (w : World) (L : Nat) (X : Nat → Option Addr) (C : Nat → Nat) (F : Nat → List ByteArray) (col : Nat → Nat) : Prop where
  lb : LBR N w L (lvR X F C)
  own : ∀ k, k < N → w.ownsRow B 9 1 (lvR X F C k) (F k).length ((F k).map Value.string)
  col : ∀ k, k < N → ∀ g, X k = some ⟨g, 0, none⟩ → col g = k
  len : ∀ k, k < N → (F k).length ≤ 4294967296
  size : B ≤ w.heap.size
theorem tx_of_own {w : World} {B n : Nat} {v : Value} {ls : List ByteArray} (h : w.ownsRow B 9 1 v n (ls.map Value.string)) (hn : ls.length = n) : ∃ x c, v = .slice x n c ∧ TxAt w x ls := by
  rcases h.2 with ⟨h1, h2⟩ | ⟨g, cap, cur, h1, _, hg, _⟩
  · refine ⟨none, 0, by rw [h1, h2], fun k hk => absurd hk (by omega)⟩
  · refine ⟨_, _, h1, fun k hk => ⟨g, 0, rfl, heap_lt hg, ?_⟩⟩
    have := World.ownsRow.cells h (g := g) (by rw [h1]; rfl) k (.string ls[k]) (by rw [List.getElem?_map, List.getElem?_eq_getElem hk]; rfl)
    rw [add_at] at this
    exact this
/-- The lists, as far as they are marked. -/
structure MkdR (N B : Nat) (w0 w : World) (L : Nat) (X : Nat → Option Addr) (C : Nat → Nat) (F : Nat → List ByteArray) (col : Nat → Nat) (i j : Nat) : Prop where
  below : Below B w0 w
  lb : LBR N w L (lvR X F C)
  ent : ∀ q, q < N → Ent w 9 1 mkR col q (lvR X F C q) (if q < i then (F q).length else if q = i then j else 0)
theorem MkdR.below' {N B : Nat} {w0 w w' : World} {L : Nat} {X : Nat → Option Addr} {C : Nat → Nat} {F : Nat → List ByteArray} {col : Nat → Nat} {i j : Nat} (h : MkdR N B w0 w L X C F col i j) (hB : B ≤ w0.heap.size) (hb : Below w.heap.size w w') : MkdR N B w0 w' L X C F col i j :=
  ⟨h.below.trans (hb.mono (Nat.le_trans hB h.below.size)), h.lb.below hb, fun q hq => (h.ent q hq).below hb⟩
theorem MkdR.next {N B : Nat} {w0 w : World} {L : Nat} {X : Nat → Option Addr} {C : Nat → Nat} {F : Nat → List ByteArray} {col : Nat → Nat} {i : Nat} (h : MkdR N B w0 w L X C F col i (F i).length) : MkdR N B w0 w L X C F col (i + 1) 0 :=
  ⟨h.below, h.lb, fun q hq => by
    have := h.ent q hq
    by_cases h1 : q < i
    · rw [if_pos h1] at this; rw [if_pos (by omega)]; exact this
    · by_cases h2 : q = i
      · subst h2
        rw [if_neg (by omega), if_pos rfl] at this; rw [if_pos (by omega)]; exact this
      · rw [if_neg h1, if_neg h2] at this; rw [if_neg (by omega)]
        split <;> exact this⟩
theorem CameR.start {N B : Nat} {w w' : World} {L : Nat} {X : Nat → Option Addr} {C : Nat → Nat} {F : Nat → List ByteArray} {col : Nat → Nat} (h : CameR N B w L X C F col) (hb : Below w.heap.size w w') : MkdR N B w w' L X C F col 0 0 :=
  ⟨hb.mono h.size, h.lb.below hb, fun q hq => by
    have e0 : (if q < 0 then (F q).length else if q = 0 then 0 else 0) = 0 := by rw [if_neg (by omega)]; split <;> rfl
    rw [e0]
    refine Ent.below ?_ hb
    rcases (h.own q hq).2 with ⟨h1, h2⟩ | ⟨g, cap, cur, h1, h2, h3, h4, h5, h6, _⟩
    · exact .inl ⟨h1, rfl⟩
    · refine .inr ⟨g, _, _, _, h1, h.col q hq g ?_, h3, ⟨h4, h5, h6⟩, fun j hj => by omega⟩
      unfold lvR at h1
      injection h1⟩
/-- The next text is marked. -/
theorem MkdR.mark {N B : Nat} {w0 w : World} {L : Nat} {X : Nat → Option Addr} {C : Nat → Nat} {F : Nat → List ByteArray} {col : Nat → Nat} {i j : Nat} (h : MkdR N B w0 w L X C F col i j) (hi : i < N) (hj : j < (F i).length)
    (hX : ∀ g, X i = some ⟨g, 0, none⟩ → B ≤ g) : ∃ g a, X i = some ⟨g, 0, none⟩ ∧ w.cell? ⟨g, j, none⟩ = some a ∧ w.frozen? ⟨g, j, none⟩ = false ∧ MkdR N B w0 (w.setCell ⟨g, j, none⟩ (.string (markR i))) L X C F col i (j + 1) := by
  have he := h.ent i hi
  rw [if_neg (by omega), if_pos rfl] at he
  have he2 := he
  rcases he2 with ⟨h1, h2⟩ | ⟨g, n, c, cur, h1, h2, h3, ⟨h4, h5, h6⟩, h7⟩
  · unfold lvR at h1
    injection h1 with _ e _
    omega
  · unfold lvR at h1
    injection h1 with e1 e2 e3
    subst e2 e3
    have hcell : w.cell? ⟨g, j, none⟩ = some cur[j] := by rw [cell_of_row w g j cur _ _ h3]; exact Array.getElem?_eq_getElem (by omega)
    obtain ⟨lcur, hl, hlc⟩ := h.lb
    have hne : L ≠ g := by
      rintro rfl
      rw [h3] at hl
      injection hl with hl
      injection hl with _ hl _
      exact absurd hl (by decide)
    refine ⟨g, _, e1, hcell, by simp [World.frozen?, h3], ⟨h.below.setCell (p := ⟨g, j, none⟩) (hX g e1) _, ⟨lcur, ?_, hlc⟩, fun q hq => ?_⟩⟩
    · rw [Below.heap_setCell _ _ _ _ hne]; exact hl
    · have hm : (mkR (col g))[j % 1]? = some (.string (markR i)) := by rw [h2, Nat.mod_one]; rfl
      by_cases h1 : q = i
      · subst h1
        have := h.ent q hq
        rw [if_neg (by omega), if_pos rfl] at this ⊢
        unfold lvR at this ⊢
        rw [e1] at this ⊢
        exact this.next hj rfl
      · have := h.ent q hq
        have e0 : (if q < i then (F q).length else if q = i then j + 1 else 0) = (if q < i then (F q).length else if q = i then j else 0) := by rw [if_neg h1, if_neg h1]
        rw [e0]
        exact this.set hm
/-- The lists grown so far. -/
structure GrwR (N B : Nat) (w0 w : World) (B2 L : Nat) (X : Nat → Option Addr) (C : Nat → Nat) (F : Nat → List ByteArray) (n : Nat) (al : Value) (vs : List Value) (col : Nat → Nat) : Prop where
  below : Below B w0 w
  b1 : B ≤ B2
  b2 : L < B2
  b3 : B2 ≤ w.heap.size
  lb : LBR N w L (lvR X F C)
  all : w.ownsRow B2 24 1 al n vs
  ent : ∀ q, q < N → Ent w 9 1 mkR col q (lvR X F C q) (F q).length
  ents : ∀ t v, vs[t]? = some v → ∃ x len c, v = .slice x len c ∧ len ≤ 4294967300 ∧ Ent w 9 1 mkR col (t / 4) v len
/-- The one that is grown now. -/
def NowR (B : Nat) (w : World) (col : Nat → Nat) (i j : Nat) (x : Option Addr) (len c : Nat) : Prop := len ≤ 4294967296 + j ∧ Ent w 9 1 mkR col i (.slice x len c) len ∧ ∀ g, x = some ⟨g, 0, none⟩ → B ≤ g
section
variable {N B B2 L n : Nat} {w0 w w' : World} {X : Nat → Option Addr} {C : Nat → Nat} {F : Nat → List ByteArray} {al : Value} {vs : List Value} {col : Nat → Nat}
theorem GrwR.now (h : GrwR N B w0 w B2 L X C F n al vs col) {i : Nat} (hi : i < N) (hl : (F i).length ≤ 4294967296) (hX : ∀ g, X i = some ⟨g, 0, none⟩ → B ≤ g) : NowR B w col i 0 (X i) (F i).length (C i) := ⟨by omega, h.ent i hi, hX⟩
theorem GrwR.push (h : GrwR N B w0 w B2 L X C F n al vs col) {i j : Nat} {x : Option Addr} {len c : Nat} (hx : NowR B w col i j x len c) (hj : j ≤ 4) (hn : n / 4 = i) {o : Obj} (hg : (w.alloc o).grownBy w' al.ownBlock) {al' : Value} (ho : w'.ownsRow B2 24 1 al' (n + 1) (vs ++ [.slice x len c])) :
    GrwR N B w0 w' B2 L X C F (n + 1) al' (vs ++ [.slice x len c]) col ∧ NowR B w' col i j x len c := by
  have hg' : w.grownBy w' al.ownBlock := ⟨hg.os, hg.tape, hg.output, Nat.le_trans (by simp) hg.size, fun k hk hne => (hg.block k (by simp; omega) hne).trans ((below_one w o).block k hk)⟩
  have hne : 24 ≠ 9 := by decide
  have hb : Below B2 w w' := (Below.refl B2 w).grown hg' h.b3 (fun k hk => (World.ownsRow.lt h.all k hk).1)
  have he : ∀ q v m, Ent w 9 1 mkR col q v m → Ent w' 9 1 mkR col q v m := fun q v m hv => hv.grown h.all hg' hne
  have hll := h.lb.lt
  refine ⟨⟨h.below.trans (hb.mono h.b1), h.b1, h.b2, Nat.le_trans h.b3 hg'.size, ?_, ho, fun q hq => he _ _ _ (h.ent q hq), fun t v hv => ?_⟩, hx.1, he _ _ _ hx.2.1, hx.2.2⟩
  · obtain ⟨cur, h1, h2⟩ := h.lb
    exact ⟨cur, by rw [hb.block L h.b2]; exact h1, h2⟩
  · have hlen : vs.length = n := by have := h.all.1; omega
    by_cases ht : t < n
    · rw [List.getElem?_append_left (by omega)] at hv
      obtain ⟨x1, l1, c1, e, hl, hh⟩ := h.ents t v hv
      exact ⟨x1, l1, c1, e, hl, he _ _ _ hh⟩
    · rw [List.getElem?_append_right (by omega), hlen] at hv
      have ht0 : t - n = 0 := by
        rcases Nat.eq_zero_or_pos (t - n) with h0 | h0
        · exact h0
        · rw [List.getElem?_eq_none (by simp; omega)] at hv; cases hv
      obtain rfl : t = n := by omega
      rw [Nat.sub_self] at hv
      obtain rfl : Value.slice x len c = v := by simpa using hv
      have := hx.1
      exact ⟨x, len, c, rfl, by omega, by rw [hn]; exact he _ _ _ hx.2.1⟩
theorem GrwR.grow (h : GrwR N B w0 w B2 L X C F n al vs col) (hb : Below B w w') {col' : Nat → Nat} (he : ∀ q v m, Ent w 9 1 mkR col q v m → Ent w' 9 1 mkR col' q v m)
    (hh : ∀ (g : Nat) cs t2, t2 ≠ 9 → w.heap[g]? = some (Obj.cells cs t2 (0, 0)) → w'.heap[g]? = some (Obj.cells cs t2 (0, 0))) : GrwR N B w0 w' B2 L X C F n al vs col' := by
  have hne : 24 ≠ 9 := by decide
  refine ⟨h.below.trans hb, h.b1, h.b2, Nat.le_trans h.b3 hb.size, ?_, ?_, fun q hq => he _ _ _ (h.ent q hq), fun t v hv => ?_⟩
  · obtain ⟨cur, h1, h2⟩ := h.lb
    exact ⟨cur, hh _ _ _ hne h1, h2⟩
  · refine ⟨h.all.1, ?_⟩
    rcases h.all.2 with h1 | ⟨g, cap, cur, h1, h2, h3, h4⟩
    · exact .inl h1
    · exact .inr ⟨g, cap, cur, h1, h2, hh _ _ _ hne h3, h4⟩
  · obtain ⟨x1, l1, c1, e, hl, hh⟩ := h.ents t v hv
    exact ⟨x1, l1, c1, e, hl, he _ _ _ hh⟩
theorem GrwR.below' (h : GrwR N B w0 w B2 L X C F n al vs col) (hB : B ≤ w0.heap.size) (hb : Below w.heap.size w w') : GrwR N B w0 w' B2 L X C F n al vs col :=
  h.grow (hb.mono (Nat.le_trans hB h.below.size)) (fun q v m hv => hv.below hb) (fun g cs t2 _ hg => by rw [hb.block g (heap_lt hg)]; exact hg)
theorem NowR.below' {i j len c : Nat} {x : Option Addr} (h : NowR B w col i j x len c) (hb : Below w.heap.size w w') : NowR B w' col i j x len c := ⟨h.1, h.2.1.below hb, h.2.2⟩
end

theorem grown_of_belowR {w w' : World} (h : Below w.heap.size w w') (row : Option Nat) : w.grownBy w' row := ⟨h.os, h.tape, h.output, h.size, fun k hk _ => h.block k hk⟩
theorem own_lessGR {w : World} {B B' : Nat} {e : TypeId} {size n : Nat} {v : Value} {xs : List Value} (h : w.ownsRow B' e size v n xs) (hB : B ≤ B') : w.ownsRow B e size v n xs := by
  refine ⟨h.1, ?_⟩
  rcases h.2 with h2 | ⟨g, cap, cur, h1, h2, h3⟩
  · exact .inl h2
  · exact .inr ⟨g, cap, cur, h1, Nat.le_trans hB h2, h3⟩
def updR {α : Type} (f : Nat → α) (k : Nat) (x : α) : Nat → α := fun j => if j = k then x else f j
theorem upd_sameR {α : Type} (f : Nat → α) (k : Nat) (x : α) : updR f k x k = x := if_pos rfl
theorem upd_neR {α : Type} (f : Nat → α) {k j : Nat} (x : α) (h : j ≠ k) : updR f k x j = f j := if_neg h
section
variable {w w' : World} {B B1 B2 n n1 n2 s1 s2 : Nat} {e e1 e2 : TypeId} {v v1 v2 : Value} {xs xs1 xs2 : List Value}
theorem row_neR (h1 : w.ownsRow B1 e1 s1 v1 n1 xs1) (h2 : w.ownsRow B2 e2 s2 v2 n2 xs2) (hne : e1 ≠ e2) : v1.ownBlock = none ∨ v1.ownBlock ≠ v2.ownBlock := by
  rcases h1.2 with ⟨rfl, _⟩ | ⟨g, cap, cur, rfl, _, hg, _⟩
  · exact .inl rfl
  · refine .inr fun h => ?_
    rcases h2.2 with ⟨rfl, _⟩ | ⟨g2, cap2, cur2, rfl, _, hg2, _⟩
    · simp [Value.ownBlock] at h
    · have : g = g2 := by simpa [Value.ownBlock] using h
      subst this
      rw [hg] at hg2
      injection hg2 with hg2
      injection hg2 with _ ht _
      exact hne ht
theorem row_belowR (h : w.ownsRow B e n v n1 xs) (hb : Below w.heap.size w w') : w'.ownsRow B e n v n1 xs :=
  h.kept (grown_of_belowR hb none) (by cases h2 : v.ownBlock with | none => exact Or.inl rfl | some _ => exact Or.inr (by simp))
theorem grown_allocR {o : Obj} {row : Option Nat} (hg : (w.alloc o).grownBy w' row) : w.grownBy w' row :=
  ⟨hg.os, hg.tape, hg.output, Nat.le_trans (by simp) hg.size, fun k hk hne => (hg.block k (by simp; omega) hne).trans ((below_one w o).block k hk)⟩
theorem row_sizeR (h : w.ownsRow B e n v n1 xs) : ∀ g, v.ownBlock = some g → g < w.heap.size := by
  intro g hg
  rcases h.2 with ⟨rfl, _⟩ | ⟨g2, cap2, cur2, rfl, _, hg2, _⟩
  · cases hg
  · have : g2 = g := by simpa [Value.ownBlock] using hg
    subst this
    exact heap_lt hg2
theorem LBR.of_row {N : Nat} {V : Nat → Value} {A cap : Nat} (h : w.ownsRow B 24 1 (.slice (some ⟨A, 0, none⟩) N cap) N ((List.range N).map V)) : LBR N w A V := by
  rcases h.2 with ⟨h1, _⟩ | ⟨g, cap, cur, h1, _, hg, _, _, _, ht⟩
  · cases h1
  · injection h1 with e1 _ _
    have : A = g := by simpa using e1
    subst this
    refine ⟨cur, hg, fun k hk => ?_⟩
    have h2 : (cur.toList.take (N * 1))[k]? = some (V k) := by rw [ht]; simp [hk]
    rw [List.getElem?_take, if_pos (by omega), Array.getElem?_toList] at h2
    exact h2
end
/-- Both readers' lists so far. -/
structure PLR (w0 w : World) (F : Nat → List ByteArray) (lv wv : Value) (k : Nat) (X : Nat → Option Addr) (C : Nat → Nat) (Y : Nat → Option Addr) (D : Nat → Nat) (col : Nat → Nat) : Prop where
  below : Below w0.heap.size w0 w
  lrow : w.ownsRow w0.heap.size 24 1 lv k ((List.range k).map (lvR X F C))
  wrow : w.ownsRow w0.heap.size 24 1 wv k ((List.range k).map (lvR Y F D))
  own : ∀ j, j < k → w.ownsRow w0.heap.size 9 1 (lvR X F C j) (F j).length ((F j).map Value.string)
  want : ∀ j, j < k → w.ownsRow w0.heap.size 9 1 (lvR Y F D j) (F j).length ((F j).map Value.string)
  col : ∀ j, j < k → ∀ g, X j = some ⟨g, 0, none⟩ → col g = j
  ne : lv.ownBlock = none ∨ lv.ownBlock ≠ wv.ownBlock
section
variable {w0 w w7 w8 w9 : World} {F : Nat → List ByteArray} {lv wv lv' wv' : Value} {k : Nat} {X Y : Nat → Option Addr} {C D : Nat → Nat} {col : Nat → Nat}
theorem PLR.start (w : World) (F : Nat → List ByteArray) (X Y : Nat → Option Addr) (C D : Nat → Nat) (col : Nat → Nat) : PLR w w F (.slice none 0 0) (.slice none 0 0) 0 X C Y D col :=
  ⟨Below.refl _ _, World.ownsRow_nil _ _ _ _, World.ownsRow_nil _ _ _ _, fun j hj => by omega, fun j hj => by omega, fun j hj => by omega, .inl rfl⟩
theorem PLR.wrow8 (h : PLR w0 w F lv wv k X C Y D col) (hb : Below w.heap.size w w7) {o : Obj} (hg8 : (w7.alloc o).grownBy w8 lv.ownBlock) : w8.ownsRow w0.heap.size 24 1 wv k ((List.range k).map (lvR Y F D)) := by
  refine (row_belowR h.wrow hb).kept (grown_allocR hg8) ?_
  rcases h.ne with h1 | h1
  · cases h2 : wv.ownBlock with
    | none => exact .inl rfl
    | some _ => rw [h1]; exact .inr (by simp)
  · exact .inr fun e => h1 e.symm
theorem lvR_upd (X : Nat → Option Addr) (C : Nat → Nat) (F : Nat → List ByteArray) (k : Nat) (x : Option Addr) (c : Nat) : (List.range (k + 1)).map (lvR (updR X k x) F (updR C k c)) = (List.range k).map (lvR X F C) ++ [.slice x (F k).length c] := by
  rw [List.range_succ, List.map_append]
  congr 1
  · apply List.map_congr_left
    intro j hj
    have : j ≠ k := by have := List.mem_range.1 hj; omega
    unfold lvR
    rw [upd_neR _ _ this, upd_neR _ _ this]
  · simp [lvR, upd_sameR]
theorem PLR.push (h : PLR w0 w F lv wv k X C Y D col) (hb : Below w.heap.size w w7) {x y : Option Addr} {c d : Nat} (hx : w7.ownsRow w.heap.size 9 1 (.slice x (F k).length c) (F k).length ((F k).map Value.string)) (hy : w7.ownsRow w.heap.size 9 1 (.slice y (F k).length d) (F k).length ((F k).map Value.string)) {o1 o2 : Obj}
    (hl8 : w8.ownsRow w0.heap.size 24 1 lv' (k + 1) ((List.range k).map (lvR X F C) ++ [.slice x (F k).length c])) (hg8 : (w7.alloc o1).grownBy w8 lv.ownBlock) (hi8 : ∀ g, lv'.ownBlock = some g → lv.ownBlock = some g ∨ w7.heap.size ≤ g)
    (hl9 : w9.ownsRow w0.heap.size 24 1 wv' (k + 1) ((List.range k).map (lvR Y F D) ++ [.slice y (F k).length d])) (hg9 : (w8.alloc o2).grownBy w9 wv.ownBlock) (hi9 : ∀ g, wv'.ownBlock = some g → wv.ownBlock = some g ∨ w8.heap.size ≤ g) :
    PLR w0 w9 F lv' wv' (k + 1) (updR X k x) (updR C k c) (updR Y k y) (updR D k d) (fun b => if w.heap.size ≤ b then k else col b) := by
  have hne : 9 ≠ 24 := by decide
  have g8 := grown_allocR hg8
  have g9 := grown_allocR hg9
  have hwr := h.wrow8 hb hg8
  have hlt : ∀ g, lv.ownBlock = some g → g < w7.heap.size := row_sizeR (row_belowR h.lrow hb)
  have hwt : ∀ g, wv.ownBlock = some g → g < w7.heap.size := row_sizeR (row_belowR h.wrow hb)
  have hwb : ∀ g, wv.ownBlock = some g → w0.heap.size ≤ g := fun g hg => (h.wrow.lt g hg).1
  have hlb : ∀ g, lv.ownBlock = some g → w0.heap.size ≤ g := fun g hg => (h.lrow.lt g hg).1
  have keep : ∀ (v : Value) (n B : Nat) (xs : List Value), w7.ownsRow B 9 1 v n xs → w9.ownsRow B 9 1 v n xs := fun v n B xs hv => by
    have h8 := hv.kept g8 (row_neR hv (row_belowR h.lrow hb) hne)
    exact h8.kept g9 (row_neR h8 hwr hne)
  have hB7 : Below w0.heap.size w0 w7 := h.below.trans (hb.mono h.below.size)
  have hB8 : Below w0.heap.size w0 w8 := hB7.grown g8 hB7.size hlb
  have hB9 : Below w0.heap.size w0 w9 := hB8.grown g9 hB8.size hwb
  have hl9' : w9.ownsRow w0.heap.size 24 1 lv' (k + 1) ((List.range k).map (lvR X F C) ++ [.slice x (F k).length c]) := by
    refine hl8.kept g9 ?_
    cases h1 : lv'.ownBlock with
    | none => exact .inl rfl
    | some g =>
      refine .inr fun e => ?_
      have hw := hwt g e.symm
      rcases hi8 g h1 with h2 | h2
      · rcases h.ne with h3 | h3
        · rw [h3] at h2; cases h2
        · exact h3 (h2.trans e)
      · omega
  refine ⟨hB9, by rw [lvR_upd]; exact hl9', by rw [lvR_upd]; exact hl9, fun j hj => ?_, fun j hj => ?_, fun j hj g hg => ?_, ?_⟩
  · by_cases hjk : j = k
    · subst hjk
      unfold lvR
      rw [upd_sameR, upd_sameR]
      exact keep _ _ _ _ (own_lessGR hx h.below.size)
    · unfold lvR
      rw [upd_neR _ _ hjk, upd_neR _ _ hjk]
      exact keep _ _ _ _ (row_belowR (h.own j (by omega)) hb)
  · by_cases hjk : j = k
    · subst hjk
      unfold lvR
      rw [upd_sameR, upd_sameR]
      exact keep _ _ _ _ (own_lessGR hy h.below.size)
    · unfold lvR
      rw [upd_neR _ _ hjk, upd_neR _ _ hjk]
      exact keep _ _ _ _ (row_belowR (h.want j (by omega)) hb)
  · by_cases hjk : j = k
    · subst hjk
      rw [upd_sameR] at hg
      have := (hx.lt g (by rw [hg]; rfl)).1
      show (if w.heap.size ≤ g then j else col g) = j
      rw [if_pos this]
    · rw [upd_neR _ _ hjk] at hg
      have := row_sizeR (h.own j (by omega)) g (by unfold lvR; rw [hg]; rfl)
      show (if w.heap.size ≤ g then k else col g) = j
      rw [if_neg (by omega)]
      exact h.col j (by omega) g hg
  · cases h1 : lv'.ownBlock with
    | none => exact .inl rfl
    | some g =>
      refine .inr fun e => ?_
      have hs8 : g < w8.heap.size := row_sizeR hl8 g h1
      rcases hi9 g e.symm with h2 | h2
      · have hw := hwt g h2
        rcases hi8 g h1 with h3 | h3
        · rcases h.ne with h4 | h4
          · rw [h4] at h3; cases h3
          · exact h4 (h3.trans h2.symm)
        · omega
      · omega
theorem PLR.came {N : Nat} {A W cl cw : Nat} (h : PLR w0 w F (.slice (some ⟨A, 0, none⟩) N cl) (.slice (some ⟨W, 0, none⟩) N cw) N X C Y D col) (hF : ∀ k, k < N → (F k).length ≤ 4294967296) : CameR N w0.heap.size w A X C F col :=
  ⟨LBR.of_row h.lrow, h.own, h.col, hF, h.below.size⟩
theorem PLR.after (h : PLR w0 w F lv wv k X C Y D col) (hb : Below w.heap.size w w7) : PLR w0 w7 F lv wv k X C Y D col :=
  ⟨h.below.trans (hb.mono h.below.size), row_belowR h.lrow hb, row_belowR h.wrow hb, fun j hj => row_belowR (h.own j hj) hb, fun j hj => row_belowR (h.want j hj) hb, h.col, h.ne⟩
theorem PLR.tx (h : PLR w0 w F lv wv k X C Y D col) {j : Nat} (hj : j < k) : TxAt w (X j) (F j) ∧ TxAt w (Y j) (F j) := by
  obtain ⟨x, c, e, hl⟩ := tx_of_own (h.own j hj) rfl
  obtain ⟨y, d, e2, hl2⟩ := tx_of_own (h.want j hj) rfl
  unfold lvR at e e2
  injection e with e1 _ _
  injection e2 with e3 _ _
  exact ⟨by rw [e1]; exact hl, by rw [e3]; exact hl2⟩
end

end Go.Proofs.YtopghlnoklajkaaGreatDoor

namespace Go.Proofs.YtopghlnoklajkaaGreatDoor
open Go.ChangeShapes Go.WideShapes Go.ChangeAt Go.RowKit

/-- What pieces come to, where each name stands for what is printed of its setting. -/
def flatS (ms : List SetM) (l : List PcB) : List UInt8 := l.flatMap (pieceX (plO (namesM ms)) (Tx ms))
theorem flatS_app (ms : List SetM) (a b : List PcB) : flatS ms (a ++ b) = flatS ms a ++ flatS ms b := by unfold flatS; rw [List.flatMap_append]
theorem flatS_plain (ms : List SetM) (b : List UInt8) : flatS ms [(b, false)] = b := by unfold flatS pieceX; simp
theorem flatS_two (ms : List SetM) (b nm : List UInt8) (j : Nat) (h : plO (namesM ms) nm = some j) : flatS ms [(b, false), (nm, true)] = b ++ Tx ms j := by unfold flatS pieceX; simp [h]
set_option maxHeartbeats 6400000 in
set_option maxRecDepth 100000 in
theorem expanded_any (F : Nat → Prop) (X : Nat) (w : World) (dx hx : Option Addr) (dc hc : Nat) (ks : List KeyV) (ms : List SetM) (h : LayAt F w X dx dc hx hc ks ms) (hok : LayOk ks ms) (hso : Sorted ks) (hd : Dis (namesM ms)) (hn : ms.length ≤ 1000) (s : ByteArray) (hs : s.size ≤ 200) (L : List PcB) (hL : piecesB s.data.toList = some L)
    (hin : ∀ p ∈ L, p.2 = true → ∃ j, plO (namesM ms) p.1 = some j ∧ j < ms.length) (hS : Std w) :
    Calls Tryz.prog 20 #[.pointer (some ⟨X, 0, none⟩), .string s] w fun e w' => e = .returned (.string (mkB (flatS ms L))) ∧ Below w.heap.size w w' := by
  have HR : Hid (scanB (s.data.toList.drop 0) [] [] = some L) := Lib.hid hL
  have HIN := Lib.hid hin
  have HGT : Hid (∀ W, Below w.heap.size w W → ∀ t, Calls Tryz.prog 25 #[.pointer (some ⟨X, 0, none⟩), .string t] W (GtRes W ms t)) := Lib.hid fun W hb t => lget_any F X W dx hx dc hc ks ms (h.below hb) hok hso hd hn t
  have HPR : Hid (∀ W, Below w.heap.size w W → ∀ j (hj : j < ms.length) y d B, W.ownsRow B 9 1 (.slice y ms[j].x.val.words.length d) ms[j].x.val.words.length (ms[j].x.val.words.map Value.string) → Calls Tryz.prog 43 #[argV ms[j].x.val y d] W fun e w' => e = .returned (.tuple #[.string (mkB (Tx ms j)), .int .i64 (printR ms[j].x.val).2]) ∧ Below W.heap.size W w') := Lib.hid fun W hb j hj y d B ho => by
    have hr := hok.right _ (List.getElem_mem hj)
    obtain ⟨b1, b2, b3⟩ := right_bounds hr
    rw [Tx_at hj]
    refine print_any W ms[j].x.val y d ⟨?_, ?_, by omega, fun k hk => Nat.le_trans (b2 k hk) (by decide), Nat.le_trans b3 (by decide)⟩ (hS.below hb)
    · obtain ⟨x', c', e, ht⟩ := tx_of_own ho rfl
      injection e with e1 _ _
      rw [e1]; exact ht
    · rcases ho.2 with ⟨h1, h2⟩ | ⟨g, cap, cur, h1, _, _, hnc, _⟩
      · omega
      · injection h1 with _ _ h3; omega
  have HTL : Hid (∀ j, (Tx ms j).length ≤ 200) := Lib.hid fun j => Tx_len ms j
  clear h hok hso hd hn hL hin hS
  go_enter Tryz.func20, Tryz.ntmps20
  go_wp2
  go_loopw [5, 6] (fun o i wr => ∃ (k : Nat) (ps : List PcB) (bs os : List UInt8), o = .string (mkB os) ∧ i = .int .i64 k ∧ k ≤ s.size ∧ os.length ≤ 200 * k ∧ Hid (os = flatS ms ps ++ bs) ∧ Hid (Below w.heap.size w wr) ∧ Hid (scanB (s.data.toList.drop k) bs ps = some L)) (fun _ i _ => s.size - (intOf i).toNat)
  case atStart => exact ⟨0, [], [], [], rfl, rfl, by omega, by simp, Lib.hid rfl, Lib.hid (Below.refl _ _), HR⟩
  case round =>
    clear HR
    obtain ⟨k, ps, bs, os, rfl, rfl, hk, hol, HO, HB, HR⟩ := hrel
    by_cases hlt : k < s.size
    · have q1 : (0 : Int) ≤ k := by omega
      have q2 : (k : Int) < s.size := by omega
      have hby := byte_le s k hlt
      have hdr := drop_byte s k hlt
      have hRR := HR.out
      rw [hdr] at hRR
      have hosz : (mkB os).size = os.length := mkB_size os
      by_cases hc : s[k]'hlt = 36
      · have c1 : ((s[k]'hlt).toNat : Int) = 36 := by rw [hc]; rfl
        have c1b : s[k]'hlt = 36 := hc
        rw [hc] at hRR
        by_cases hl2 : k + 1 < s.size
        · have q3 : (0 : Int) ≤ (k : Int) + 1 := by omega
          have q4 : (k : Int) + 1 < s.size := by omega
          have hby2 := byte_le s (k + 1) hl2
          have hdr2 := drop_byte s (k + 1) hl2
          rw [hdr2] at hRR
          by_cases hd : s[k + 1]'hl2 = 36
          · have c2 : ((s[k + 1]'hl2).toNat : Int) = 36 := by rw [hd]; rfl
            rw [hd, scanB_two] at hRR
            have HRR := Lib.hid hRR
            have hma : mkB os ++ ⟨#[36]⟩ = mkB (os ++ [36]) := mkB_append os [36]
            have hsz : ¬ 9223372036854775807 < (mkB os).size + 1 := by omega
            have HO2 : Hid (os ++ [36] = flatS ms ps ++ (bs ++ [36])) := Lib.hid (by rw [HO.out]; simp)
            clear hdr hdr2 hRR hc hd HR HO
            go_wp2
            go_roundw
            case rel => exact ⟨k + 2, ps, bs ++ [36], os ++ [36], rfl, by go_num, by omega, by simp; omega, HO2, HB, HRR⟩
            case measure => simp [intOf]; omega
          · have c2 : ¬ ((s[k + 1]'hl2).toNat : Int) = 36 := fun e => hd (UInt8.toNat_inj.1 (by have : ((36 : UInt8).toNat : Int) = 36 := rfl; omega))
            by_cases he : s[k + 1]'hl2 = 123
            · rw [he] at hRR
              have HRR := Lib.hid hRR
              have HE1 := Lib.hid he
              have hIn0 : Hid (((s.data.toList.drop (k + 2)).take (k + 1 - (k + 2))).contains 125 = false) := Lib.hid (by rw [show k + 1 - (k + 2) = 0 by omega]; simp)
              clear hdr hdr2 hRR hc hd he HR
              go_wp2
              go_loopw [6] (fun i ws => ∃ j : Nat, i = .int .i64 j ∧ k + 1 ≤ j ∧ j ≤ s.size ∧ Hid (((s.data.toList.drop (k + 2)).take (j - (k + 2))).contains 125 = false) ∧ wr = ws) (fun i _ => s.size - (intOf i).toNat)
              case atStart => exact ⟨k + 1, by go_num, by omega, by omega, hIn0, rfl⟩
              case round =>
                clear hIn0
                obtain ⟨j, rfl, hj1, hj2, HNO, rfl⟩ := hrel
                by_cases hjt : j < s.size
                · have q5 : (0 : Int) ≤ j := by omega
                  have q6 : (j : Int) < s.size := by omega
                  have hby3 := byte_le s j hjt
                  by_cases hf : s[j]'hjt = 125
                  · have c4 : ((s[j]'hjt).toNat : Int) = 125 := by rw [hf]; rfl
                    have hj3 : k + 2 ≤ j := by
                      rcases Nat.lt_or_ge j (k + 2) with h | h
                      · obtain rfl : j = k + 1 := by omega
                        have := HE1.out
                        rw [hf] at this
                        cases this
                      · exact h
                    have hL : j - (k + 2) < (s.data.toList.drop (k + 2)).length := by rw [List.length_drop]; simp; omega
                    have hLe : (s.data.toList.drop (k + 2))[j - (k + 2)]'hL = 125 := by
                      rw [List.getElem_drop]
                      simp only [show k + 2 + (j - (k + 2)) = j by omega]
                      exact (list_at s j hjt).trans hf
                    obtain ⟨u1, u2, u3⟩ := upTo_hit hL HNO.out hLe
                    obtain ⟨nb, hnb⟩ : ∃ nb, s.extract (k + 2) j = nb := ⟨_, rfl⟩
                    have hnd : nb.data.toList = upTo 125 (s.data.toList.drop (k + 2)) := by rw [← hnb, Lib.extract_data, u1]
                    have haf : after 125 (s.data.toList.drop (k + 2)) = s.data.toList.drop (j + 1) := by
                      rw [u2, List.drop_drop]
                      congr 1
                      omega
                    have hto : ((k : Int) + 1 + 1).toNat = k + 2 := by omega
                    have w1 : (0 : Int) ≤ (k : Int) + 1 + 1 := by omega
                    have w2 : (k : Int) + 1 + 1 ≤ j := by omega
                    have w3 : (j : Int) ≤ s.size := by omega
                    have hRR := HRR.out
                    have hok : nameB nb.data.toList = true := by
                      cases hno : nameB nb.data.toList with
                      | true => rfl
                      | false =>
                        rw [show s.data.toList.drop (k + 1 + 1) = s.data.toList.drop (k + 2) from rfl, scanB_no (by rw [← hnd]; exact hno)] at hRR
                        cases hRR
                    rw [show s.data.toList.drop (k + 1 + 1) = s.data.toList.drop (k + 2) from rfl, scanB_ref u3 (by rw [← hnd]; exact hok), haf, ← hnd] at hRR
                    have HR2 := Lib.hid hRR
                    obtain ⟨x0, m0, hx0⟩ := scanP_ext _ _ _ _ _ hRR
                    obtain ⟨jp, hjp, hjl⟩ := HIN.out (nb.data.toList, true) (by rw [hx0]; simp) rfl
                    have hpl : placeN (namesM ms) nb = (jp : Int) := by
                      unfold plO at hjp
                      rw [show (⟨nb.data.toList.toArray⟩ : ByteArray) = nb from mkB_self nb] at hjp
                      split at hjp
                      · have := Option.some.inj hjp; omega
                      · cases hjp
                    have HJP := Lib.hid hjp
                    have HG := Lib.hid (HGT.out wr HB.out nb)
                    clear hRR hnd haf HRR hok u1 u2 u3 hL hLe hf hx0 hjp HGT
                    go_wp2_with fail
                    refine HG.out.mono ?_
                    rintro e w3 ⟨hb3, ⟨hp, _⟩ | ⟨j2, hj2, hp, y, d, rfl, ho⟩⟩
                    · omega
                    · obtain rfl : j2 = jp := by omega
                      have HB3 : Hid (∀ o, Below w.heap.size w (w3.alloc o)) := Lib.hid fun o => (HB.out.trans (hb3.mono HB.out.size)).trans ((below_one w3 o).mono (HB.out.trans (hb3.mono HB.out.size)).size)
                      have HP3 : Hid (∀ o, Calls Tryz.prog 43 #[argV ms[j2].x.val y d] (w3.alloc o) fun e w' => e = .returned (.tuple #[.string (mkB (Tx ms j2)), .int .i64 (printR ms[j2].x.val).2]) ∧ Below (w3.alloc o).heap.size (w3.alloc o) w') := Lib.hid fun o => HPR.out (w3.alloc o) (HB3.out o) j2 hj2 y d _ (rowBelow ho (below_one w3 o))
                      have hTL := HTL.out j2
                      have hfl := flatS_two ms bs nb.data.toList j2 HJP.out
                      have HO2 : Hid (os ++ Tx ms j2 = flatS ms (ps ++ [(bs, false), (nb.data.toList, true)]) ++ []) := Lib.hid (by rw [flatS_app, hfl, HO.out]; simp)
                      have hma : mkB os ++ mkB (Tx ms j2) = mkB (os ++ Tx ms j2) := mkB_append os _
                      have hsz : ¬ 9223372036854775807 < (mkB os).size + (mkB (Tx ms j2)).size := by rw [mkB_size, mkB_size]; omega
                      unfold argV at HP3
                      unfold sVal
                      generalize ms[j2].x.val.words.length = nw at HP3 ⊢
                      generalize ms[j2].x.val.kind = vk at HP3 ⊢
                      generalize ms[j2].x.val.int = vi at HP3 ⊢
                      generalize ms[j2].x.val.text = vt at HP3 ⊢
                      generalize ms[j2].x.name = vn
                      generalize ms[j2].x.from_ = vf
                      generalize (printR ms[j2].x.val).2 = pe at HP3
                      generalize Tx ms j2 = tt at HP3 hTL hma hsz HO2
                      clear hb3 ho HG HO HPR HTL HIN HJP hfl HB
                      go_wp2_with fail
                      refine (HP3.out _).mono ?_
                      rintro e w4 ⟨rfl, hb4⟩
                      have HB4 := Lib.hid ((HB3.out _).trans (hb4.mono (HB3.out _).size))
                      clear hb4 HB3 HP3
                      go_wp2
                      go_roundw
                      case rel => exact ⟨j + 1, _, [], os ++ tt, by rw [← hma]; first | done | rfl, by go_num, by omega, by simp; omega, HO2, HB4, HR2⟩
                      case measure => simp [intOf]; omega
                  · have c4 : ¬ ((s[j]'hjt).toNat : Int) = 125 := fun e => hf (UInt8.toNat_inj.1 (by have : ((125 : UInt8).toNat : Int) = 125 := rfl; omega))
                    have HN2 : Hid (((s.data.toList.drop (k + 2)).take (j + 1 - (k + 2))).contains 125 = false) := Lib.hid (by
                      rcases Nat.lt_or_ge j (k + 2) with h | h
                      · rw [show j + 1 - (k + 2) = 0 by omega]; simp
                      · have hL : j - (k + 2) < (s.data.toList.drop (k + 2)).length := by rw [List.length_drop]; simp; omega
                        rw [show j + 1 - (k + 2) = j - (k + 2) + 1 by omega]
                        refine no_next hL HNO.out ?_
                        rw [List.getElem_drop]
                        simp only [show k + 2 + (j - (k + 2)) = j by omega]
                        rw [list_at s j hjt]
                        exact hf)
                    clear hf HNO
                    go_wp2
                    go_roundw
                    case rel => exact ⟨j + 1, by go_num, by omega, by omega, HN2, by first | rfl | trivial⟩
                    case measure => simp [intOf]; omega
                · obtain rfl : j = s.size := by omega
                  exfalso
                  have hno : (s.data.toList.drop (k + 2)).contains 125 = false := by
                    have := HNO.out
                    rwa [List.take_of_length_le (by rw [List.length_drop]; simp)] at this
                  have hRR := HRR.out
                  rw [show s.data.toList.drop (k + 1 + 1) = s.data.toList.drop (k + 2) from rfl, scanB_open hno] at hRR
                  cases hRR
            · exfalso
              rw [scanB_bad hd he] at hRR
              cases hRR
        · exfalso
          have hdn : s.data.toList.drop (k + 1) = [] := List.drop_eq_nil_of_le (by simp; omega)
          rw [hdn, scanB_end] at hRR
          cases hRR
      · have c1 : ¬ ((s[k]'hlt).toNat : Int) = 36 := fun e => hc (UInt8.toNat_inj.1 (by have : ((36 : UInt8).toNat : Int) = 36 := rfl; omega))
        rw [scanB_byte hc] at hRR
        have HRR := Lib.hid hRR
        have hex : s.extract k (k + 1) = mkB [s[k]'hlt] := by
          rw [← mkB_self (s.extract k (k + 1)), Lib.extract_data, hdr]
          rw [show k + 1 - k = 1 by omega]
          rfl
        have hma : mkB os ++ mkB [s[k]'hlt] = mkB (os ++ [s[k]'hlt]) := mkB_append os _
        have hsz : ¬ 9223372036854775807 < (mkB os).size + (mkB [s[k]'hlt]).size := by rw [mkB_size, mkB_size]; simp; omega
        have HO2 : Hid (os ++ [s[k]'hlt] = flatS ms ps ++ (bs ++ [s[k]'hlt])) := Lib.hid (by rw [HO.out]; simp)
        have w1 : (k : Int) ≤ (k : Int) + 1 := by omega
        have w2 : (k : Int) + 1 ≤ s.size := by omega
        have hto : ((k : Int) + 1).toNat = k + 1 := by omega
        have hto2 : (k : Int).toNat = k := by omega
        clear hdr hRR hc HR HO
        go_wp2
        go_roundw
        case rel => exact ⟨k + 1, ps, bs ++ [s[k]'hlt], os ++ [s[k]'hlt], by rw [← hma]; first | done | rfl, by go_num, by omega, by simp; omega, HO2, HB, HRR⟩
        case measure => simp [intOf]; omega
    · obtain rfl : k = s.size := by omega
      have hRR := HR.out
      rw [List.drop_eq_nil_of_le (by simp), scanB_nil] at hRR
      have HE : Hid (os = flatS ms L) := Lib.hid (by
        rw [← Option.some.inj hRR, flatS_app, flatS_plain]
        exact HO.out)
      have q2 : ¬ (s.size : Int) < s.size := by omega
      clear hRR HR HO
      go_wp2
      go_ret
      exact ⟨by rw [HE.out]; rfl, HB.out⟩
end Go.Proofs.YtopghlnoklajkaaGreatDoor
