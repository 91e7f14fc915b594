/-
  PrOwned.
-/
import Derived.Test.YticcdighfojjjaaGreatDoorQPrOwn
import Derived.Test.YticcdighfojjjaaGreatDoorQMarks
import Derived.Test.YticcdighfojjjaaGreatDoorQBytes
import Derived.Deep.RegionHeld3
import Derived.Deep.AppendLies
import Derived.IntWalk
namespace Go.Proofs.YticcdighfojjjaaGreatDoor
open Go.ChangeShapes Go.WideShapes Go.ChangeAt Go.RowKit

/-- The bytes that mark what is the i-th's. -/
def markP (i : Nat) : ByteArray := ⟨#[109, 97, 114, 107, UInt8.ofNat i, UInt8.ofNat (i / 256)]⟩
/-- The mark of an owner. -/
def mkPr (i : Nat) : List Value := [.string ⟨#[]⟩, .string (markP i), .string ⟨#[]⟩]
theorem Ent.upP {w : World} {e : TypeId} {sz : Nat} {mk : Nat → List Value} {col : Nat → Nat} {i g n c k : Nat} (h : Ent w e sz mk col i (.slice (some ⟨g, 0, none⟩) n c) k) (hc : ∀ r, r < sz → w.cell? ⟨g, k * sz + r, none⟩ = (mk i)[r]?) : Ent w e sz mk col i (.slice (some ⟨g, 0, none⟩) n c) (k + 1) := by
  rcases h with ⟨h, _⟩ | ⟨g', n', c', cur, h1, h2, h3, h4, h5⟩
  · cases h
  · injection h1 with e1 e2 e3
    have eg : g = g' := by simpa using e1
    subst eg e2 e3
    refine .inr ⟨g, n, c, cur, rfl, h2, h3, h4, fun j hj => ?_⟩
    by_cases hk : j < k * sz
    · exact h5 j hk
    · rw [Nat.add_mul, Nat.one_mul] at hj
      have hr : j - k * sz < sz := by omega
      have h6 := hc (j - k * sz) hr
      rw [show k * sz + (j - k * sz) = j by omega, cell_of_row w g j cur e (0, 0) h3] at h6
      have hm : j % sz = j - k * sz := by
        conv => lhs; rw [show j = (j - k * sz) + sz * k by rw [Nat.mul_comm sz k]; omega]
        rw [Nat.add_mul_mod_self_left, Nat.mod_eq_of_lt hr]
      rw [h6, hm]
theorem Ent.cellsP {w : World} {e : TypeId} {sz : Nat} {mk : Nat → List Value} {col : Nat → Nat} {i n k : Nat} {x : Option Addr} {c : Nat} (h : Ent w e sz mk col i (.slice x n c) n) (hk : k < n) : ∃ g, x = some ⟨g, 0, none⟩ ∧ g < w.heap.size ∧ ∀ r, r < sz → w.cell? ⟨g, k * sz + r, none⟩ = (mk i)[r]? := by
  rcases h with ⟨h, h0⟩ | ⟨g, n', c', cur, h1, h2, h3, h4, h5⟩
  · omega
  · injection h1 with e1 e2 e3
    subst e1
    refine ⟨g, rfl, heap_lt h3, fun r hr => ?_⟩
    have hlt : k * sz + r < n * sz := by
      have : (k + 1) * sz ≤ n * sz := Nat.mul_le_mul_right _ hk
      rw [Nat.add_mul, Nat.one_mul] at this
      omega
    rw [cell_of_row w g _ cur e (0, 0) h3, h5 _ hlt]
    rw [show (k * sz + r) % sz = r by rw [Nat.add_comm, Nat.mul_comm k sz, Nat.add_mul_mod_self_left, Nat.mod_eq_of_lt hr]]
theorem infoLstP : (Tryz.prog.info? 37).map (fun i => (i.zero, i.size, i.bytes)) = some (some (.slice none 0 0), 1, 24) := by kernel_rfl
/-- A block with lists in it. -/
def LBP (N : Nat) (w : World) (L : Nat) (V : Nat → Value) : Prop := ∃ cur, w.heap[L]? = some (Obj.cells cur 37 (0, 0)) ∧ ∀ k, k < N → cur[k]? = some (V k)
theorem LBP.lt {N : Nat} {w : World} {L : Nat} {V : Nat → Value} (h : LBP N w L V) : L < w.heap.size := by obtain ⟨_, h, _⟩ := h; exact heap_lt h
theorem LBP.cell {N : Nat} {w : World} {L : Nat} {V : Nat → Value} (h : LBP N w L V) {k : Nat} (hk : k < N) : w.cell? ⟨L, k, none⟩ = some (V k) := by
  obtain ⟨cur, h, hc⟩ := h
  rw [cell_of_row w L k cur _ _ h]; exact hc k hk
theorem LBP.below {N : Nat} {w w' : World} {L : Nat} {V : Nat → Value} (h : LBP N w L V) (hb : Below w.heap.size w w') : LBP N w' L V := by
  have hl := h.lt
  obtain ⟨cur, h, hc⟩ := h
  exact ⟨cur, by rw [hb.block L hl]; exact h, hc⟩
/-- A list as a value. -/
def lvP (X : Nat → Option Addr) (F : Nat → List PairV) (C : Nat → Nat) (k : Nat) : Value := .slice (X k) (F k).length (C k)
/-- The lists that came out, and as they should read. -/
structure CameP (N B : Nat) (w : World) (L : Nat) (X : Nat → Option Addr) (C : Nat → Nat) (F : Nat → List PairV) (col : Nat → Nat) : Prop where
  lb : LBP N w L (lvP X F C)
  own : ∀ k, k < N → w.ownsRow B 51 3 (lvP X F C k) (F k).length (pFlat (F k))
  col : ∀ k, k < N → ∀ g, X k = some ⟨g, 0, none⟩ → col g = k
  len : ∀ k, k < N → (F k).length ≤ 2147483647
  size : B ≤ w.heap.size
theorem CameP.lns {N B : Nat} {w : World} {L : Nat} {X : Nat → Option Addr} {C : Nat → Nat} {F : Nat → List PairV} {col : Nat → Nat} (h : CameP N B w L X C F col) {k : Nat} (hk : k < N) : PrsAt w (X k) (F k) := by
  obtain ⟨x, c, e, hl⟩ := PrsAt.of_own (h.own k hk) rfl
  unfold lvP at e
  injection e with e1 _ _
  rw [e1]; exact hl
/-- The lists, as far as they are marked. -/
structure MkdP (N B : Nat) (w0 w : World) (L : Nat) (X : Nat → Option Addr) (C : Nat → Nat) (F : Nat → List PairV) (col : Nat → Nat) (i j : Nat) : Prop where
  below : Below B w0 w
  lb : LBP N w L (lvP X F C)
  ent : ∀ q, q < N → Ent w 51 3 mkPr col q (lvP X F C q) (if q < i then (F q).length else if q = i then j else 0)
theorem MkdP.below' {N B : Nat} {w0 w w' : World} {L : Nat} {X : Nat → Option Addr} {C : Nat → Nat} {F : Nat → List PairV} {col : Nat → Nat} {i j : Nat} (h : MkdP N B w0 w L X C F col i j) (hB : B ≤ w0.heap.size) (hb : Below w.heap.size w w') : MkdP N B w0 w' L X C F col i j :=
  ⟨h.below.trans (hb.mono (Nat.le_trans hB h.below.size)), h.lb.below hb, fun q hq => (h.ent q hq).below hb⟩
theorem MkdP.next {N B : Nat} {w0 w : World} {L : Nat} {X : Nat → Option Addr} {C : Nat → Nat} {F : Nat → List PairV} {col : Nat → Nat} {i : Nat} (h : MkdP N B w0 w L X C F col i (F i).length) : MkdP N B w0 w L X C F col (i + 1) 0 :=
  ⟨h.below, h.lb, fun q hq => by
    have := h.ent q hq
    by_cases h1 : q < i
    · rw [if_pos h1] at this; rw [if_pos (by omega)]; exact this
    · by_cases h2 : q = i
      · subst h2
        rw [if_neg (by omega), if_pos rfl] at this; rw [if_pos (by omega)]; exact this
      · rw [if_neg h1, if_neg h2] at this; rw [if_neg (by omega)]
        split <;> exact this⟩
theorem CameP.start {N B : Nat} {w w' : World} {L : Nat} {X : Nat → Option Addr} {C : Nat → Nat} {F : Nat → List PairV} {col : Nat → Nat} (h : CameP N B w L X C F col) (hb : Below w.heap.size w w') : MkdP N B w w' L X C F col 0 0 :=
  ⟨hb.mono h.size, h.lb.below hb, fun q hq => by
    have e0 : (if q < 0 then (F q).length else if q = 0 then 0 else 0) = 0 := by rw [if_neg (by omega)]; split <;> rfl
    rw [e0]
    refine Ent.below ?_ hb
    rcases (h.own q hq).2 with ⟨h1, h2⟩ | ⟨g, cap, cur, h1, h2, h3, h4, h5, h6, _⟩
    · exact .inl ⟨h1, rfl⟩
    · refine .inr ⟨g, _, _, _, h1, h.col q hq g ?_, h3, ⟨h4, h5, h6⟩, fun j hj => by omega⟩
      unfold lvP at h1
      injection h1⟩
theorem cell_set3 (w : World) (g p : Nat) (a b c va vb vc : Value) (h0 : w.cell? ⟨g, p, none⟩ = some va) (h1 : w.cell? ⟨g, p + 1, none⟩ = some vb) (h2 : w.cell? ⟨g, p + 2, none⟩ = some vc) : ∀ r, r < 3 → (((w.setCell ⟨g, p, none⟩ a).setCell ⟨g, p + 1, none⟩ b).setCell ⟨g, p + 2, none⟩ c).cell? ⟨g, p + r, none⟩ = [a, b, c][r]? := by
  have o : ∀ (V : World) (i j : Nat) (u : Value), ¬ i = j → (V.setCell ⟨g, i, none⟩ u).cell? ⟨g, j, none⟩ = V.cell? ⟨g, j, none⟩ := fun V i j u hn => World.cell?_setCell_other _ _ _ _ (fun e => hn (by injection e))
  intro r hr
  have h3 : r = 0 ∨ r = 1 ∨ r = 2 := by omega
  rcases h3 with rfl | rfl | rfl
  · show World.cell? _ ⟨g, p, none⟩ = _
    rw [o _ _ _ _ (by omega), o _ _ _ _ (by omega), World.cell?_setCell_same _ _ _ h0]; rfl
  · rw [o _ _ _ _ (by omega), World.cell?_setCell_same _ _ _ ((o _ _ _ _ (by omega)).trans h1)]; rfl
  · rw [World.cell?_setCell_same _ _ _ ((o _ _ _ _ (by omega)).trans ((o _ _ _ _ (by omega)).trans h2))]; rfl
/-- The next line is marked. -/
theorem MkdP.mark {N B : Nat} {w0 w : World} {L : Nat} {X : Nat → Option Addr} {C : Nat → Nat} {F : Nat → List PairV} {col : Nat → Nat} {i j : Nat} (h : MkdP N B w0 w L X C F col i j) (hi : i < N) (hj : j < (F i).length)
    (hX : ∀ g, X i = some ⟨g, 0, none⟩ → B ≤ g) : ∃ g a b c, X i = some ⟨g, 0, none⟩ ∧ w.cell? ⟨g, j * 3, none⟩ = some a ∧ w.cell? ⟨g, j * 3 + 1, none⟩ = some b ∧ w.cell? ⟨g, j * 3 + 2, none⟩ = some c ∧ (∀ p, w.frozen? ⟨g, p, none⟩ = false) ∧
      MkdP N B w0 (((w.setCell ⟨g, j * 3, none⟩ (.string ⟨#[]⟩)).setCell ⟨g, j * 3 + 1, none⟩ (.string (markP i))).setCell ⟨g, j * 3 + 2, none⟩ (.string ⟨#[]⟩)) L X C F col i (j + 1) := by
  have he := h.ent i hi
  rw [if_neg (by omega), if_pos rfl] at he
  have he2 := he
  rcases he2 with ⟨h1, h2⟩ | ⟨g, n, c, cur, h1, h2, h3, ⟨h4, h5, h6⟩, h7⟩
  · unfold lvP at h1
    injection h1 with _ e _
    omega
  · unfold lvP at h1
    injection h1 with e1 e2 e3
    subst e2 e3
    have hcell : ∀ r, r < 3 → ∃ v, w.cell? ⟨g, j * 3 + r, none⟩ = some v := fun r hr => by
      rw [cell_of_row w g _ cur _ _ h3]
      exact ⟨_, Array.getElem?_eq_getElem (by omega)⟩
    obtain ⟨va, hva⟩ := hcell 0 (by decide)
    obtain ⟨vb, hvb⟩ := hcell 1 (by decide)
    obtain ⟨vc, hvc⟩ := hcell 2 (by decide)
    obtain ⟨lcur, hl, hlc⟩ := h.lb
    have hne : L ≠ g := by
      rintro rfl
      rw [h3] at hl
      injection hl with hl
      injection hl with _ hl _
      exact absurd hl (by decide)
    refine ⟨g, va, vb, vc, e1, hva, hvb, hvc, fun p => by simp [World.frozen?, h3], ⟨((h.below.setCell (p := ⟨g, j * 3, none⟩) (hX g e1) _).setCell (p := ⟨g, j * 3 + 1, none⟩) (hX g e1) _).setCell (p := ⟨g, j * 3 + 2, none⟩) (hX g e1) _, ⟨lcur, ?_, hlc⟩, fun q hq => ?_⟩⟩
    · rw [Below.heap_setCell _ _ _ _ hne, Below.heap_setCell _ _ _ _ hne, Below.heap_setCell _ _ _ _ hne]; exact hl
    · have m0 : (mkPr (col g))[(j * 3) % 3]? = some (.string ⟨#[]⟩) := by rw [show (j * 3) % 3 = 0 by omega]; rfl
      have m1 : (mkPr (col g))[(j * 3 + 1) % 3]? = some (.string (markP i)) := by rw [show (j * 3 + 1) % 3 = 1 by omega, h2]; rfl
      have m2 : (mkPr (col g))[(j * 3 + 2) % 3]? = some (.string ⟨#[]⟩) := by rw [show (j * 3 + 2) % 3 = 2 by omega]; rfl
      have hk := (((h.ent q hq).set (p := j * 3) m0).set (p := j * 3 + 1) m1).set (p := j * 3 + 2) m2
      by_cases h1 : q = i
      · subst h1
        rw [if_neg (by omega), if_pos rfl] at hk ⊢
        unfold lvP at hk ⊢
        rw [e1] at hk ⊢
        exact hk.upP (cell_set3 w g (j * 3) _ _ _ va vb vc hva hvb hvc)
      · have e0 : (if q < i then (F q).length else if q = i then j + 1 else 0) = (if q < i then (F q).length else if q = i then j else 0) := by rw [if_neg h1, if_neg h1]
        rw [e0]
        exact hk

/-- The lists grown so far. -/
structure GrwP (N B : Nat) (w0 w : World) (B2 L : Nat) (X : Nat → Option Addr) (C : Nat → Nat) (F : Nat → List PairV) (n : Nat) (al : Value) (vs : List Value) (col : Nat → Nat) : Prop where
  below : Below B w0 w
  b1 : B ≤ B2
  b2 : L < B2
  b3 : B2 ≤ w.heap.size
  lb : LBP N w L (lvP X F C)
  all : w.ownsRow B2 37 1 al n vs
  ent : ∀ q, q < N → Ent w 51 3 mkPr col q (lvP X F C q) (F q).length
  ents : ∀ t v, vs[t]? = some v → ∃ x len c, v = .slice x len c ∧ len ≤ 2147483700 ∧ Ent w 51 3 mkPr col (t / 4) v len
/-- The one that is grown now. -/
def NowP (B : Nat) (w : World) (col : Nat → Nat) (i j : Nat) (x : Option Addr) (len c : Nat) : Prop := len ≤ 2147483647 + j ∧ Ent w 51 3 mkPr col i (.slice x len c) len ∧ ∀ g, x = some ⟨g, 0, none⟩ → B ≤ g
section
variable {N B B2 L n : Nat} {w0 w w' : World} {X : Nat → Option Addr} {C : Nat → Nat} {F : Nat → List PairV} {al : Value} {vs : List Value} {col : Nat → Nat}
theorem MkdP.grw (h : MkdP N B w0 w L X C F col N 0) (hB : B ≤ w0.heap.size) : GrwP N B w0 w w.heap.size L X C F 0 (.slice none 0 0) [] col :=
  ⟨h.below, Nat.le_trans hB h.below.size, h.lb.lt, Nat.le_refl _, h.lb, World.ownsRow_nil _ _ _ _, fun q hq => by have := h.ent q hq; rw [if_pos hq] at this; exact this, fun t v hv => by cases hv⟩
theorem GrwP.now (h : GrwP N B w0 w B2 L X C F n al vs col) {i : Nat} (hi : i < N) (hl : (F i).length ≤ 2147483647) (hX : ∀ g, X i = some ⟨g, 0, none⟩ → B ≤ g) : NowP B w col i 0 (X i) (F i).length (C i) := ⟨by omega, h.ent i hi, hX⟩
theorem GrwP.push (h : GrwP N B w0 w B2 L X C F n al vs col) {i j : Nat} {x : Option Addr} {len c : Nat} (hx : NowP B w col i j x len c) (hj : j ≤ 4) (hn : n / 4 = i) {o : Obj} (hg : (w.alloc o).grownBy w' al.ownBlock) {al' : Value} (ho : w'.ownsRow B2 37 1 al' (n + 1) (vs ++ [.slice x len c])) :
    GrwP N B w0 w' B2 L X C F (n + 1) al' (vs ++ [.slice x len c]) col ∧ NowP B w' col i j x len c := by
  have hg' : w.grownBy w' al.ownBlock := ⟨hg.os, hg.tape, hg.output, Nat.le_trans (by simp) hg.size, fun k hk hne => (hg.block k (by simp; omega) hne).trans ((below_one w o).block k hk)⟩
  have hne : 37 ≠ 51 := by decide
  have hb : Below B2 w w' := (Below.refl B2 w).grown hg' h.b3 (fun k hk => (World.ownsRow.lt h.all k hk).1)
  have he : ∀ q v m, Ent w 51 3 mkPr col q v m → Ent w' 51 3 mkPr col q v m := fun q v m hv => hv.grown h.all hg' hne
  have hll := h.lb.lt
  refine ⟨⟨h.below.trans (hb.mono h.b1), h.b1, h.b2, Nat.le_trans h.b3 hg'.size, ?_, ho, fun q hq => he _ _ _ (h.ent q hq), fun t v hv => ?_⟩, hx.1, he _ _ _ hx.2.1, hx.2.2⟩
  · obtain ⟨cur, h1, h2⟩ := h.lb
    exact ⟨cur, by rw [hb.block L h.b2]; exact h1, h2⟩
  · have hlen : vs.length = n := by have := h.all.1; omega
    by_cases ht : t < n
    · rw [List.getElem?_append_left (by omega)] at hv
      obtain ⟨x1, l1, c1, e, hl, hh⟩ := h.ents t v hv
      exact ⟨x1, l1, c1, e, hl, he _ _ _ hh⟩
    · rw [List.getElem?_append_right (by omega), hlen] at hv
      have ht0 : t - n = 0 := by
        rcases Nat.eq_zero_or_pos (t - n) with h0 | h0
        · exact h0
        · rw [List.getElem?_eq_none (by simp; omega)] at hv; cases hv
      obtain rfl : t = n := by omega
      rw [Nat.sub_self] at hv
      obtain rfl : Value.slice x len c = v := by simpa using hv
      have := hx.1
      exact ⟨x, len, c, rfl, by omega, by rw [hn]; exact he _ _ _ hx.2.1⟩
theorem GrwP.grow (h : GrwP N B w0 w B2 L X C F n al vs col) (hb : Below B w w') {col' : Nat → Nat} (he : ∀ q v m, Ent w 51 3 mkPr col q v m → Ent w' 51 3 mkPr col' q v m)
    (hh : ∀ (g : Nat) cs t2, t2 ≠ 51 → w.heap[g]? = some (Obj.cells cs t2 (0, 0)) → w'.heap[g]? = some (Obj.cells cs t2 (0, 0))) : GrwP N B w0 w' B2 L X C F n al vs col' := by
  have hne : 37 ≠ 51 := by decide
  refine ⟨h.below.trans hb, h.b1, h.b2, Nat.le_trans h.b3 hb.size, ?_, ?_, fun q hq => he _ _ _ (h.ent q hq), fun t v hv => ?_⟩
  · obtain ⟨cur, h1, h2⟩ := h.lb
    exact ⟨cur, hh _ _ _ hne h1, h2⟩
  · refine ⟨h.all.1, ?_⟩
    rcases h.all.2 with h1 | ⟨g, cap, cur, h1, h2, h3, h4⟩
    · exact .inl h1
    · exact .inr ⟨g, cap, cur, h1, h2, hh _ _ _ hne h3, h4⟩
  · obtain ⟨x1, l1, c1, e, hl, hh⟩ := h.ents t v hv
    exact ⟨x1, l1, c1, e, hl, he _ _ _ hh⟩
theorem GrwP.below' (h : GrwP N B w0 w B2 L X C F n al vs col) (hB : B ≤ w0.heap.size) (hb : Below w.heap.size w w') : GrwP N B w0 w' B2 L X C F n al vs col :=
  h.grow (hb.mono (Nat.le_trans hB h.below.size)) (fun q v m hv => hv.below hb) (fun g cs t2 _ hg => by rw [hb.block g (heap_lt hg)]; exact hg)
theorem NowP.below' {i j len c : Nat} {x : Option Addr} (h : NowP B w col i j x len c) (hb : Below w.heap.size w w') : NowP B w' col i j x len c := ⟨h.1, h.2.1.below hb, h.2.2⟩
theorem row_form {e : TypeId} (h : w.ownsRow B e 1 al n vs) (hn : 0 < n) : ∃ A cap, al = .slice (some ⟨A, 0, none⟩) n cap ∧ A < w.heap.size ∧ ∀ t v, vs[t]? = some v → w.cell? ⟨A, t, none⟩ = some v := by
  rcases h.2 with ⟨_, h2⟩ | ⟨g, cap, cur, h1, _, hg, _⟩
  · omega
  · refine ⟨g, cap, h1, heap_lt hg, fun t v hv => ?_⟩
    have := World.ownsRow.cells h (g := g) (by rw [h1]; rfl) t v hv
    rw [add_zero_at] at this
    exact this
end

/-- An append of a list to the lists. -/
theorem appendLP {ops : Array Oper} {rest : List Oper} {o : Oper} {a : Act} {Q : Exit → Act → World → Prop} (hgd : o.guard = none) (s x : Operand)
    (ho : o.op = .call { callee := .builtin .append, args := #[s, x], argTypes := #[40, 40] }) {B n : Nat} {w : World} {v u : Value} {vs : List Value} (hown : w.ownsRow B 37 1 v n vs) (hB : B ≤ w.heap.size) (hn : n ≤ 100000000000) (hu : u.oneCell' = true) (hs : a.eval s = v)
    {c : Nat} (hx : a.eval x = .slice (some ⟨w.heap.size, 0, none⟩) 1 c)
    (h : ∀ g cap w', w'.ownsRow B 37 1 (.slice (some ⟨g, 0, none⟩) (n + 1) cap) (n + 1) (vs ++ [u]) → (w.alloc (Obj.cells #[u] 37)).grownBy w' v.ownBlock → wpList Tryz.prog ops Q rest (a.put o.dst (.slice (some ⟨g, 0, none⟩) (n + 1) cap)) w') :
    wpList Tryz.prog ops Q (o :: rest) a (w.alloc (Obj.cells #[u] 37)) := by
  obtain ⟨i0, hi, hz0, hz1, hz2⟩ := info_parts infoLstP
  refine wpList_append_lies _ hgd s x _ ho B 37 i0 (.slice none 0 0) 1 24 Tryz.underlying40 hi hz0 hz1 hz2 rfl (by decide) v n vs hs (hown.alloc _) ⟨w.heap.size, 0, none⟩ 1 c [u] hx rfl (World.news_of_block (heap_alloc_new w _)) ?_ (by decide) (by unfold maxLen; omega) (by omega) (Nat.le_trans hB (below_one w _).size) _ rfl ?_
  · intro u' hu'
    rw [List.mem_singleton.1 hu']; exact hu
  · intro g cap w1 h1 h2 _ _
    exact h g cap w1 h1 h2
/-- An append of a mark. -/
theorem appendMP {ops : Array Oper} {rest : List Oper} {o : Oper} {a : Act} {Q : Exit → Act → World → Prop} (hgd : o.guard = none) (s x : Operand)
    (ho : o.op = .call { callee := .builtin .append, args := #[s, x], argTypes := #[37, 37] }) {B i m len c : Nat} {w : World} {xa : Option Addr} {col : Nat → Nat} (hN : NowP B w col i m xa len c) (hB : B ≤ w.heap.size) (hn : m ≤ 4) (hs : a.eval s = .slice xa len c)
    {c' G : Nat} (hG : w.heap.size = G) (hx : a.eval x = .slice (some ⟨G, 0, none⟩) 1 c')
    (h : ∀ x' l2 c2 w' col', NowP B w' col' i (m + 1) x' l2 c2 → (∀ q v k, Ent w 51 3 mkPr col q v k → Ent w' 51 3 mkPr col' q v k) →
      (∀ (g : Nat) cs t2, t2 ≠ 51 → w.heap[g]? = some (Obj.cells cs t2 (0, 0)) → w'.heap[g]? = some (Obj.cells cs t2 (0, 0))) → Below B w w' → wpList Tryz.prog ops Q rest (a.put o.dst (.slice x' l2 c2)) w') :
    wpList Tryz.prog ops Q (o :: rest) a (w.alloc (Obj.cells #[.string ⟨#[]⟩, .string (markP i), .string ⟨#[]⟩] 51)) := by
  subst hG
  obtain ⟨i0, hi, hz0, hz1, hz2⟩ := info_parts infoPr
  have hb := below_one w (Obj.cells #[.string ⟨#[]⟩, .string (markP i), .string ⟨#[]⟩] 51)
  have hN' := hN.below' hb
  obtain ⟨xs, hown⟩ := hN'.2.1.owns hN'.2.2
  have hl := hN.1
  refine wpList_append_mark _ hgd s x _ ho B 51 i0 _ 3 48 Tryz.underlying37 hi hz0 hz1 hz2 rfl (by decide) _ len xs hs hown ⟨w.heap.size, 0, none⟩ c' mkPr col i hx rfl (World.news_of_block (heap_alloc_new w _)) ?_ (by unfold maxLen; omega) (by omega) (Nat.le_trans hB hb.size) hN'.2.1 ?_
  · intro u hu
    simp only [mkPr, List.mem_cons, List.not_mem_nil, or_false] at hu
    rcases hu with rfl | rfl | rfl <;> rfl
  · intro x' c2 w' col' h1 h2 h3 h4 h5
    refine h x' (len + 1) c2 w' col' ⟨by omega, h2, fun g hg => (World.ownsRow.lt h1 g (by rw [hg]; rfl)).1⟩ (fun q v k hv => h3 q v k (hv.below hb)) (fun g cs t2 hne hg => h4 g cs t2 hne (by rw [hb.block g (heap_lt hg)]; exact hg)) ((hb.mono hB).trans h5)

end Go.Proofs.YticcdighfojjjaaGreatDoor
