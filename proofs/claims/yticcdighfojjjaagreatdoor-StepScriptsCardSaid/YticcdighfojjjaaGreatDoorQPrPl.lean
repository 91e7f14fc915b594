/-
  PrPl.
-/
import Derived.Test.YticcdighfojjjaaGreatDoorQPrOwned
namespace Go.Proofs.YticcdighfojjjaaGreatDoor
open Go.ChangeShapes Go.WideShapes Go.ChangeAt Go.RowKit

theorem grown_of_below {w w' : World} (h : Below w.heap.size w w') (row : Option Nat) : w.grownBy w' row := ⟨h.os, h.tape, h.output, h.size, fun k hk _ => h.block k hk⟩
theorem own_lessP {w : World} {B B' : Nat} {e : TypeId} {size n : Nat} {v : Value} {xs : List Value} (h : w.ownsRow B' e size v n xs) (hB : B ≤ B') : w.ownsRow B e size v n xs := by
  refine ⟨h.1, ?_⟩
  rcases h.2 with h2 | ⟨g, cap, cur, h1, h2, h3⟩
  · exact .inl h2
  · exact .inr ⟨g, cap, cur, h1, Nat.le_trans hB h2, h3⟩
def upd {α : Type} (f : Nat → α) (k : Nat) (x : α) : Nat → α := fun j => if j = k then x else f j
theorem upd_same {α : Type} (f : Nat → α) (k : Nat) (x : α) : upd f k x k = x := if_pos rfl
theorem upd_ne {α : Type} (f : Nat → α) {k j : Nat} (x : α) (h : j ≠ k) : upd f k x j = f j := if_neg h
section
variable {w w' : World} {B B1 B2 n n1 n2 s1 s2 : Nat} {e e1 e2 : TypeId} {v v1 v2 : Value} {xs xs1 xs2 : List Value}
theorem row_ne (h1 : w.ownsRow B1 e1 s1 v1 n1 xs1) (h2 : w.ownsRow B2 e2 s2 v2 n2 xs2) (hne : e1 ≠ e2) : v1.ownBlock = none ∨ v1.ownBlock ≠ v2.ownBlock := by
  rcases h1.2 with ⟨rfl, _⟩ | ⟨g, cap, cur, rfl, _, hg, _⟩
  · exact .inl rfl
  · refine .inr fun h => ?_
    rcases h2.2 with ⟨rfl, _⟩ | ⟨g2, cap2, cur2, rfl, _, hg2, _⟩
    · simp [Value.ownBlock] at h
    · have : g = g2 := by simpa [Value.ownBlock] using h
      subst this
      rw [hg] at hg2
      injection hg2 with hg2
      injection hg2 with _ ht _
      exact hne ht
theorem row_below (h : w.ownsRow B e n v n1 xs) (hb : Below w.heap.size w w') : w'.ownsRow B e n v n1 xs :=
  h.kept (grown_of_below hb none) (by cases h2 : v.ownBlock with | none => exact Or.inl rfl | some _ => exact Or.inr (by simp))
theorem grown_alloc {o : Obj} {row : Option Nat} (hg : (w.alloc o).grownBy w' row) : w.grownBy w' row :=
  ⟨hg.os, hg.tape, hg.output, Nat.le_trans (by simp) hg.size, fun k hk hne => (hg.block k (by simp; omega) hne).trans ((below_one w o).block k hk)⟩
theorem lies_own {g8 n cap : Nat} {P : Nat → Prop} (h : P g8) : ∀ g, (Value.slice (some ⟨g8, 0, none⟩) n cap).ownBlock = some g → P g := by
  intro g hg
  have : g8 = g := by simpa [Value.ownBlock] using hg
  rw [← this]; exact h
theorem row_size (h : w.ownsRow B e n v n1 xs) : ∀ g, v.ownBlock = some g → g < w.heap.size := by
  intro g hg
  rcases h.2 with ⟨rfl, _⟩ | ⟨g2, cap2, cur2, rfl, _, hg2, _⟩
  · cases hg
  · have : g2 = g := by simpa [Value.ownBlock] using hg
    subst this
    exact heap_lt hg2
theorem LBP.of_row {N : Nat} {V : Nat → Value} {A cap : Nat} (h : w.ownsRow B 37 1 (.slice (some ⟨A, 0, none⟩) N cap) N ((List.range N).map V)) : LBP N w A V := by
  rcases h.2 with ⟨h1, _⟩ | ⟨g, cap, cur, h1, _, hg, _, _, _, ht⟩
  · cases h1
  · injection h1 with e1 _ _
    have : A = g := by simpa using e1
    subst this
    refine ⟨cur, hg, fun k hk => ?_⟩
    have h2 : (cur.toList.take (N * 1))[k]? = some (V k) := by rw [ht]; simp [hk]
    rw [List.getElem?_take, if_pos (by omega), Array.getElem?_toList] at h2
    exact h2
end
/-- An append of a list to the lists: where it lies. -/
theorem appendLP4 {ops : Array Oper} {rest : List Oper} {o : Oper} {a : Act} {Q : Exit → Act → World → Prop} (hgd : o.guard = none) (s x : Operand)
    (ho : o.op = .call { callee := .builtin .append, args := #[s, x], argTypes := #[40, 40] }) {B n : Nat} {w : World} {v u : Value} {vs : List Value} (hown : w.ownsRow B 37 1 v n vs) (hB : B ≤ w.heap.size) (hn : n ≤ 100000000000) (hu : u.oneCell' = true) (hs : a.eval s = v)
    {c : Nat} (hx : a.eval x = .slice (some ⟨w.heap.size, 0, none⟩) 1 c)
    (h : ∀ g cap w', w'.ownsRow B 37 1 (.slice (some ⟨g, 0, none⟩) (n + 1) cap) (n + 1) (vs ++ [u]) → (w.alloc (Obj.cells #[u] 37)).grownBy w' v.ownBlock → (v.ownBlock = some g ∨ w.heap.size ≤ g) → wpList Tryz.prog ops Q rest (a.put o.dst (.slice (some ⟨g, 0, none⟩) (n + 1) cap)) w') :
    wpList Tryz.prog ops Q (o :: rest) a (w.alloc (Obj.cells #[u] 37)) := by
  obtain ⟨i0, hi, hz0, hz1, hz2⟩ := info_parts infoLstP
  refine wpList_append_lies _ hgd s x _ ho B 37 i0 (.slice none 0 0) 1 24 Tryz.underlying40 hi hz0 hz1 hz2 rfl (by decide) v n vs hs (hown.alloc _) ⟨w.heap.size, 0, none⟩ 1 c [u] hx rfl (World.news_of_block (heap_alloc_new w _)) ?_ (by decide) (by unfold maxLen; omega) (by omega) (Nat.le_trans hB (below_one w _).size) _ rfl ?_
  · intro u' hu'
    rw [List.mem_singleton.1 hu']; exact hu
  · intro g cap w1 h1 h2 h3 _
    exact h g cap w1 h1 h2 (h3.imp id fun h3 => by rw [h3]; exact (below_one w _).size)

/-- Pairs in memory, in no block of two rows. -/
def PrsX (w : World) (x : Option Addr) (ps : List PairV) (lv wv : Value) : Prop :=
  ∀ k (h : k < ps.length), ∃ b off, x = some ⟨b, off, none⟩ ∧ b < w.heap.size ∧ (lv.ownBlock ≠ some b ∧ wv.ownBlock ≠ some b) ∧ w.cell? ⟨b, off + k * 3, none⟩ = some (.string ps[k].table) ∧ w.cell? ⟨b, off + k * 3 + 1, none⟩ = some (.string ps[k].key) ∧ w.cell? ⟨b, off + k * 3 + 2, none⟩ = some (.string ps[k].value)
theorem PrsX.prs {w : World} {x : Option Addr} {ps : List PairV} {lv wv : Value} (h : PrsX w x ps lv wv) : PrsAt w x ps := fun k hk => by
  obtain ⟨b, off, e, hl, _, c⟩ := h k hk
  exact ⟨b, off, e, hl, c⟩
theorem PrsX.of_prs {w : World} {x : Option Addr} {ps : List PairV} {lv wv : Value} (h : PrsAt w x ps) (hn : ∀ b off, x = some ⟨b, off, none⟩ → lv.ownBlock ≠ some b ∧ wv.ownBlock ≠ some b) : PrsX w x ps lv wv := fun k hk => by
  obtain ⟨b, off, e, hl, c⟩ := h k hk
  exact ⟨b, off, e, hl, hn b off e, c⟩
theorem PrsX.below {w w' : World} {x : Option Addr} {ps : List PairV} {lv wv : Value} (h : PrsX w x ps lv wv) (hb : Below w.heap.size w w') : PrsX w' x ps lv wv := fun k hk => by
  obtain ⟨b, off, e, hl, hn, c0, c1, c2⟩ := h k hk
  exact ⟨b, off, e, Nat.lt_of_lt_of_le hl hb.size, hn, by rw [hb.cell (p := ⟨b, off + k * 3, none⟩) hl]; exact c0, by rw [hb.cell (p := ⟨b, off + k * 3 + 1, none⟩) hl]; exact c1, by rw [hb.cell (p := ⟨b, off + k * 3 + 2, none⟩) hl]; exact c2⟩
/-- The first row grows, then the second one. -/
theorem PrsX.grown {w7 w8 w9 : World} {x : Option Addr} {ps : List PairV} {lv wv lv' wv' : Value} (h : PrsX w7 x ps lv wv) (g8 : w7.grownBy w8 lv.ownBlock) (g9 : w8.grownBy w9 wv.ownBlock)
    (hi8 : ∀ g, lv'.ownBlock = some g → lv.ownBlock = some g ∨ w7.heap.size ≤ g) (hi9 : ∀ g, wv'.ownBlock = some g → wv.ownBlock = some g ∨ w8.heap.size ≤ g) : PrsX w9 x ps lv' wv' := fun k hk => by
  obtain ⟨b, off, e, hl, ⟨h1, h2⟩, c0, c1, c2⟩ := h k hk
  have hb8 := g8.block b hl (fun e => h1 e.symm)
  have hl8 : b < w8.heap.size := Nat.lt_of_lt_of_le hl g8.size
  have hb9 := (g9.block b hl8 (fun e => h2 e.symm)).trans hb8
  refine ⟨b, off, e, Nat.lt_of_lt_of_le hl8 g9.size, ⟨fun e => ?_, fun e => ?_⟩, ?_, ?_, ?_⟩
  · rcases hi8 b e with h3 | h3
    · exact h1 h3
    · omega
  · rcases hi9 b e with h3 | h3
    · exact h2 h3
    · omega
  · rw [World.cell?_of_block (a := ⟨b, off + k * 3, none⟩) hb9]; exact c0
  · rw [World.cell?_of_block (a := ⟨b, off + k * 3 + 1, none⟩) hb9]; exact c1
  · rw [World.cell?_of_block (a := ⟨b, off + k * 3 + 2, none⟩) hb9]; exact c2
/-- Both lists of lists so far. -/
structure PLP (w0 w : World) (F : Nat → List PairV) (lv wv : Value) (k : Nat) (X : Nat → Option Addr) (C : Nat → Nat) (Y : Nat → Option Addr) (D : Nat → Nat) (col : Nat → Nat) : Prop where
  below : Below w0.heap.size w0 w
  lrow : w.ownsRow w0.heap.size 37 1 lv k ((List.range k).map (lvP X F C))
  wrow : w.ownsRow w0.heap.size 37 1 wv k ((List.range k).map (lvP Y F D))
  own : ∀ j, j < k → w.ownsRow w0.heap.size 51 3 (lvP X F C j) (F j).length (pFlat (F j))
  want : ∀ j, j < k → PrsX w (Y j) (F j) lv wv
  col : ∀ j, j < k → ∀ g, X j = some ⟨g, 0, none⟩ → col g = j
  ne : lv.ownBlock = none ∨ lv.ownBlock ≠ wv.ownBlock
section
variable {w0 w w7 w8 w9 : World} {F : Nat → List PairV} {lv wv lv' wv' : Value} {k : Nat} {X Y : Nat → Option Addr} {C D : Nat → Nat} {col : Nat → Nat}
theorem PLP.start (w : World) (F : Nat → List PairV) (X Y : Nat → Option Addr) (C D : Nat → Nat) (col : Nat → Nat) : PLP w w F (.slice none 0 0) (.slice none 0 0) 0 X C Y D col :=
  ⟨Below.refl _ _, World.ownsRow_nil _ _ _ _, World.ownsRow_nil _ _ _ _, fun j hj => by omega, fun j hj => by omega, fun j hj => by omega, .inl rfl⟩
theorem PLP.wrow8 (h : PLP w0 w F lv wv k X C Y D col) (hb : Below w.heap.size w w7) {o : Obj} (hg8 : (w7.alloc o).grownBy w8 lv.ownBlock) : w8.ownsRow w0.heap.size 37 1 wv k ((List.range k).map (lvP Y F D)) := by
  refine (row_below h.wrow hb).kept (grown_alloc hg8) ?_
  cases h1 : wv.ownBlock with
  | none => exact .inl rfl
  | some g =>
    refine .inr fun e => ?_
    rcases h.ne with h2 | h2
    · rw [h2] at e; cases e
    · exact h2 (by rw [h1]; exact e.symm)
theorem lvP_upd (X : Nat → Option Addr) (C : Nat → Nat) (F : Nat → List PairV) (k : Nat) (x : Option Addr) (c : Nat) : (List.range (k + 1)).map (lvP (upd X k x) F (upd C k c)) = (List.range k).map (lvP X F C) ++ [.slice x (F k).length c] := by
  rw [List.range_succ, List.map_append]
  congr 1
  · refine List.map_congr_left fun j hj => ?_
    have : j ≠ k := by have := List.mem_range.1 hj; omega
    unfold lvP
    rw [upd_ne _ _ this, upd_ne _ _ this]
  · simp [lvP, upd_same]
theorem PLP.push (h : PLP w0 w F lv wv k X C Y D col) (hb : Below w.heap.size w w7) {x y : Option Addr} {c d : Nat} (hx : w7.ownsRow w.heap.size 51 3 (.slice x (F k).length c) (F k).length (pFlat (F k))) (hy : PrsX w7 y (F k) lv wv) {o1 o2 : Obj}
    (hl8 : w8.ownsRow w0.heap.size 37 1 lv' (k + 1) ((List.range k).map (lvP X F C) ++ [.slice x (F k).length c])) (hg8 : (w7.alloc o1).grownBy w8 lv.ownBlock) (hi8 : ∀ g, lv'.ownBlock = some g → lv.ownBlock = some g ∨ w7.heap.size ≤ g)
    (hl9 : w9.ownsRow w0.heap.size 37 1 wv' (k + 1) ((List.range k).map (lvP Y F D) ++ [.slice y (F k).length d])) (hg9 : (w8.alloc o2).grownBy w9 wv.ownBlock) (hi9 : ∀ g, wv'.ownBlock = some g → wv.ownBlock = some g ∨ w8.heap.size ≤ g) :
    PLP w0 w9 F lv' wv' (k + 1) (upd X k x) (upd C k c) (upd Y k y) (upd D k d) (fun b => if w.heap.size ≤ b then k else col b) := by
  have hne : 51 ≠ 37 := by decide
  have g8 := grown_alloc hg8
  have g9 := grown_alloc hg9
  have hwr := h.wrow8 hb hg8
  have hlt : ∀ g, lv.ownBlock = some g → g < w7.heap.size := row_size (row_below h.lrow hb)
  have hwt : ∀ g, wv.ownBlock = some g → g < w7.heap.size := row_size (row_below h.wrow hb)
  have hwb : ∀ g, wv.ownBlock = some g → w0.heap.size ≤ g := fun g hg => (h.wrow.lt g hg).1
  have hlb : ∀ g, lv.ownBlock = some g → w0.heap.size ≤ g := fun g hg => (h.lrow.lt g hg).1
  have keep : ∀ (v : Value) (n B : Nat) (xs : List Value), w7.ownsRow B 51 3 v n xs → w9.ownsRow B 51 3 v n xs := fun v n B xs hv => by
    have h8 := hv.kept g8 (row_ne hv (row_below h.lrow hb) hne)
    exact h8.kept g9 (row_ne h8 hwr hne)
  have hB7 : Below w0.heap.size w0 w7 := h.below.trans (hb.mono h.below.size)
  have hB8 : Below w0.heap.size w0 w8 := hB7.grown g8 hB7.size hlb
  have hB9 : Below w0.heap.size w0 w9 := hB8.grown g9 hB8.size hwb
  have hl9' : w9.ownsRow w0.heap.size 37 1 lv' (k + 1) ((List.range k).map (lvP X F C) ++ [.slice x (F k).length c]) := by
    refine hl8.kept g9 ?_
    cases h1 : lv'.ownBlock with
    | none => exact .inl rfl
    | some g =>
      refine .inr fun e => ?_
      have hw := hwt g e.symm
      rcases hi8 g h1 with h2 | h2
      · rcases h.ne with h3 | h3
        · rw [h3] at h2; cases h2
        · exact h3 (h2.trans e)
      · omega
  refine ⟨hB9, by rw [lvP_upd]; exact hl9', by rw [lvP_upd]; exact hl9, fun j hj => ?_, fun j hj => ?_, fun j hj g hg => ?_, ?_⟩
  · by_cases hjk : j = k
    · subst hjk
      unfold lvP
      rw [upd_same, upd_same]
      exact keep _ _ _ _ (own_lessP hx h.below.size)
    · unfold lvP
      rw [upd_ne _ _ hjk, upd_ne _ _ hjk]
      exact keep _ _ _ _ (row_below (h.own j (by omega)) hb)
  · by_cases hjk : j = k
    · subst hjk
      rw [upd_same]
      exact hy.grown g8 g9 hi8 hi9
    · rw [upd_ne _ _ hjk]
      exact ((h.want j (by omega)).below hb).grown g8 g9 hi8 hi9
  · by_cases hjk : j = k
    · subst hjk
      rw [upd_same] at hg
      have := (hx.lt g (by rw [hg]; rfl)).1
      show (if w.heap.size ≤ g then j else col g) = j
      rw [if_pos this]
    · rw [upd_ne _ _ hjk] at hg
      have := row_size (h.own j (by omega)) g (by unfold lvP; rw [hg]; rfl)
      show (if w.heap.size ≤ g then k else col g) = j
      rw [if_neg (by omega)]
      exact h.col j (by omega) g hg
  · cases h1 : lv'.ownBlock with
    | none => exact .inl rfl
    | some g =>
      refine .inr fun e => ?_
      have hs8 : g < w8.heap.size := row_size hl8 g h1
      rcases hi9 g e.symm with h2 | h2
      · have hw := hwt g h2
        rcases hi8 g h1 with h3 | h3
        · rcases h.ne with h4 | h4
          · rw [h4] at h3; cases h3
          · exact h4 (h3.trans h2.symm)
        · omega
      · omega
theorem PLP.came {N : Nat} {A W cl cw : Nat} (h : PLP w0 w F (.slice (some ⟨A, 0, none⟩) N cl) (.slice (some ⟨W, 0, none⟩) N cw) N X C Y D col) (hF : ∀ k, k < N → (F k).length ≤ 2147483647) : CameP N w0.heap.size w A X C F col :=
  ⟨LBP.of_row h.lrow, h.own, h.col, hF, h.below.size⟩
theorem PLP.after (h : PLP w0 w F lv wv k X C Y D col) (hb : Below w.heap.size w w7) : PLP w0 w7 F lv wv k X C Y D col :=
  ⟨h.below.trans (hb.mono h.below.size), row_below h.lrow hb, row_below h.wrow hb, fun j hj => row_below (h.own j hj) hb, fun j hj => (h.want j hj).below hb, h.col, h.ne⟩
theorem PLP.cong (h : PLP w0 w F lv wv k X C Y D col) {F' : Nat → List PairV} (he : ∀ j, j < k → F' j = F j) : PLP w0 w F' lv wv k X C Y D col := by
  have hm : ∀ (Z : Nat → Option Addr) (E : Nat → Nat), (List.range k).map (lvP Z F' E) = (List.range k).map (lvP Z F E) := fun Z E => List.map_congr_left fun j hj => by unfold lvP; rw [he j (List.mem_range.1 hj)]
  refine ⟨h.below, by rw [hm]; exact h.lrow, by rw [hm]; exact h.wrow, fun j hj => ?_, fun j hj => by rw [he j hj]; exact h.want j hj, h.col, h.ne⟩
  have := h.own j hj
  unfold lvP at this ⊢
  rw [he j hj]; exact this
end
end Go.Proofs.YticcdighfojjjaaGreatDoor
