/-
  The walk of the law's apart: lists of lines that came out are compared, marked, grown, and looked at.
-/
import Derived.Test.YtbpbiakdigjcnaaDoorIniLaw0
import Derived.Test.YtbpbiakdigjcnaaDoorMarks
import Derived.Deep.RegionHeld3
import Derived.Deep.AppendLies
import Derived.IntWalk
namespace Go.Proofs.YtbpbiakdigjcnaaDoor
open Go.ChangeShapes Go.WideShapes Go.ChangeAt Go.RowKit

/-- The mark of an owner. -/
def mkLn (i : Nat) : List Value := [.string ⟨#[]⟩, .string ⟨#[]⟩, .int .i64 (-1 - (i : Int))]
theorem Ent.up {w : World} {e : TypeId} {sz : Nat} {mk : Nat → List Value} {col : Nat → Nat} {i g n c k : Nat} (h : Ent w e sz mk col i (.slice (some ⟨g, 0, none⟩) n c) k) (hc : ∀ r, r < sz → w.cell? ⟨g, k * sz + r, none⟩ = (mk i)[r]?) : Ent w e sz mk col i (.slice (some ⟨g, 0, none⟩) n c) (k + 1) := by
  rcases h with ⟨h, _⟩ | ⟨g', n', c', cur, h1, h2, h3, h4, h5⟩
  · cases h
  · injection h1 with e1 e2 e3
    have eg : g = g' := by simpa using e1
    subst eg e2 e3
    refine .inr ⟨g, n, c, cur, rfl, h2, h3, h4, fun j hj => ?_⟩
    by_cases hk : j < k * sz
    · exact h5 j hk
    · rw [Nat.add_mul, Nat.one_mul] at hj
      have hr : j - k * sz < sz := by omega
      have h6 := hc (j - k * sz) hr
      rw [show k * sz + (j - k * sz) = j by omega, cell_of_row w g j cur e (0, 0) h3] at h6
      have hm : j % sz = j - k * sz := by
        conv => lhs; rw [show j = (j - k * sz) + sz * k by rw [Nat.mul_comm sz k]; omega]
        rw [Nat.add_mul_mod_self_left, Nat.mod_eq_of_lt hr]
      rw [h6, hm]
theorem Ent.cells {w : World} {e : TypeId} {sz : Nat} {mk : Nat → List Value} {col : Nat → Nat} {i n k : Nat} {x : Option Addr} {c : Nat} (h : Ent w e sz mk col i (.slice x n c) n) (hk : k < n) : ∃ g, x = some ⟨g, 0, none⟩ ∧ g < w.heap.size ∧ ∀ r, r < sz → w.cell? ⟨g, k * sz + r, none⟩ = (mk i)[r]? := by
  rcases h with ⟨h, h0⟩ | ⟨g, n', c', cur, h1, h2, h3, h4, h5⟩
  · omega
  · injection h1 with e1 e2 e3
    subst e1
    refine ⟨g, rfl, heap_lt h3, fun r hr => ?_⟩
    have hlt : k * sz + r < n * sz := by
      have : (k + 1) * sz ≤ n * sz := Nat.mul_le_mul_right _ hk
      rw [Nat.add_mul, Nat.one_mul] at this
      omega
    rw [cell_of_row w g _ cur e (0, 0) h3, h5 _ hlt]
    rw [show (k * sz + r) % sz = r by rw [Nat.add_comm, Nat.mul_comm k sz, Nat.add_mul_mod_self_left, Nat.mod_eq_of_lt hr]]
theorem infoLst3 : (Tryd.prog.info? 27).map (fun i => (i.zero, i.size, i.bytes)) = some (some (.slice none 0 0), 1, 24) := by kernel_rfl
/-- A block with lists in it. -/
def LB3 (N : Nat) (w : World) (L : Nat) (V : Nat → Value) : Prop := ∃ cur, w.heap[L]? = some (Obj.cells cur 27 (0, 0)) ∧ ∀ k, k < N → cur[k]? = some (V k)
theorem LB3.lt {N : Nat} {w : World} {L : Nat} {V : Nat → Value} (h : LB3 N w L V) : L < w.heap.size := by obtain ⟨_, h, _⟩ := h; exact heap_lt h
theorem LB3.cell {N : Nat} {w : World} {L : Nat} {V : Nat → Value} (h : LB3 N w L V) {k : Nat} (hk : k < N) : w.cell? ⟨L, k, none⟩ = some (V k) := by
  obtain ⟨cur, h, hc⟩ := h
  rw [cell_of_row w L k cur _ _ h]; exact hc k hk
theorem LB3.below {N : Nat} {w w' : World} {L : Nat} {V : Nat → Value} (h : LB3 N w L V) (hb : Below w.heap.size w w') : LB3 N w' L V := by
  have hl := h.lt
  obtain ⟨cur, h, hc⟩ := h
  exact ⟨cur, by rw [hb.block L hl]; exact h, hc⟩
/-- A list as a value. -/
def lv3 (X : Nat → Option Addr) (F : Nat → List LineV) (C : Nat → Nat) (k : Nat) : Value := .slice (X k) (F k).length (C k)
/-- The lists that came out, and as they should read. -/
structure Came3 (N B : Nat) (w : World) (L W : Nat) (X : Nat → Option Addr) (C : Nat → Nat) (F : Nat → List LineV) (Y : Nat → Option Addr) (D : Nat → Nat) (col : Nat → Nat) : Prop where
  lb : LB3 N w L (lv3 X F C)
  wb : LB3 N w W (lv3 Y F D)
  own : ∀ k, k < N → w.ownsRow B 35 3 (lv3 X F C k) (F k).length (flatL (F k))
  col : ∀ k, k < N → ∀ g, X k = some ⟨g, 0, none⟩ → col g = k
  want : ∀ k, k < N → Lns w (Y k) (F k)
  len : ∀ k, k < N → (F k).length ≤ 8001
  size : B ≤ w.heap.size
theorem Came3.lns {N B : Nat} {w : World} {L W : Nat} {X : Nat → Option Addr} {C : Nat → Nat} {F : Nat → List LineV} {Y : Nat → Option Addr} {D : Nat → Nat} {col : Nat → Nat} (h : Came3 N B w L W X C F Y D col) {k : Nat} (hk : k < N) : Lns w (X k) (F k) := by
  obtain ⟨x, c, e, hl⟩ := Lns.of_own (h.own k hk) rfl
  unfold lv3 at e
  injection e with e1 _ _
  rw [e1]; exact hl
/-- The lists, as far as they are marked. -/
structure Mkd3 (N B : Nat) (w0 w : World) (L : Nat) (X : Nat → Option Addr) (C : Nat → Nat) (F : Nat → List LineV) (col : Nat → Nat) (i j : Nat) : Prop where
  below : Below B w0 w
  lb : LB3 N w L (lv3 X F C)
  ent : ∀ q, q < N → Ent w 35 3 mkLn col q (lv3 X F C q) (if q < i then (F q).length else if q = i then j else 0)
theorem Mkd3.below' {N B : Nat} {w0 w w' : World} {L : Nat} {X : Nat → Option Addr} {C : Nat → Nat} {F : Nat → List LineV} {col : Nat → Nat} {i j : Nat} (h : Mkd3 N B w0 w L X C F col i j) (hB : B ≤ w0.heap.size) (hb : Below w.heap.size w w') : Mkd3 N B w0 w' L X C F col i j :=
  ⟨h.below.trans (hb.mono (Nat.le_trans hB h.below.size)), h.lb.below hb, fun q hq => (h.ent q hq).below hb⟩
theorem Mkd3.next {N B : Nat} {w0 w : World} {L : Nat} {X : Nat → Option Addr} {C : Nat → Nat} {F : Nat → List LineV} {col : Nat → Nat} {i : Nat} (h : Mkd3 N B w0 w L X C F col i (F i).length) : Mkd3 N B w0 w L X C F col (i + 1) 0 :=
  ⟨h.below, h.lb, fun q hq => by
    have := h.ent q hq
    by_cases h1 : q < i
    · rw [if_pos h1] at this; rw [if_pos (by omega)]; exact this
    · by_cases h2 : q = i
      · subst h2
        rw [if_neg (by omega), if_pos rfl] at this; rw [if_pos (by omega)]; exact this
      · rw [if_neg h1, if_neg h2] at this; rw [if_neg (by omega)]
        split <;> exact this⟩
theorem Came3.start {N B : Nat} {w w' : World} {L W : Nat} {X : Nat → Option Addr} {C : Nat → Nat} {F : Nat → List LineV} {Y : Nat → Option Addr} {D : Nat → Nat} {col : Nat → Nat} (h : Came3 N B w L W X C F Y D col) (hb : Below w.heap.size w w') : Mkd3 N B w w' L X C F col 0 0 :=
  ⟨hb.mono h.size, h.lb.below hb, fun q hq => by
    have e0 : (if q < 0 then (F q).length else if q = 0 then 0 else 0) = 0 := by rw [if_neg (by omega)]; split <;> rfl
    rw [e0]
    refine Ent.below ?_ hb
    rcases (h.own q hq).2 with ⟨h1, h2⟩ | ⟨g, cap, cur, h1, h2, h3, h4, h5, h6, _⟩
    · exact .inl ⟨h1, rfl⟩
    · refine .inr ⟨g, _, _, _, h1, h.col q hq g ?_, h3, ⟨h4, h5, h6⟩, fun j hj => by omega⟩
      unfold lv3 at h1
      injection h1⟩
theorem cell_set3 (w : World) (g p : Nat) (a b c va vb vc : Value) (h0 : w.cell? ⟨g, p, none⟩ = some va) (h1 : w.cell? ⟨g, p + 1, none⟩ = some vb) (h2 : w.cell? ⟨g, p + 2, none⟩ = some vc) : ∀ r, r < 3 → (((w.setCell ⟨g, p, none⟩ a).setCell ⟨g, p + 1, none⟩ b).setCell ⟨g, p + 2, none⟩ c).cell? ⟨g, p + r, none⟩ = [a, b, c][r]? := by
  have o : ∀ (V : World) (i j : Nat) (u : Value), ¬ i = j → (V.setCell ⟨g, i, none⟩ u).cell? ⟨g, j, none⟩ = V.cell? ⟨g, j, none⟩ := fun V i j u hn => World.cell?_setCell_other _ _ _ _ (fun e => hn (by injection e))
  intro r hr
  have h3 : r = 0 ∨ r = 1 ∨ r = 2 := by omega
  rcases h3 with rfl | rfl | rfl
  · show World.cell? _ ⟨g, p, none⟩ = _
    rw [o _ _ _ _ (by omega), o _ _ _ _ (by omega), World.cell?_setCell_same _ _ _ h0]; rfl
  · rw [o _ _ _ _ (by omega), World.cell?_setCell_same _ _ _ ((o _ _ _ _ (by omega)).trans h1)]; rfl
  · rw [World.cell?_setCell_same _ _ _ ((o _ _ _ _ (by omega)).trans ((o _ _ _ _ (by omega)).trans h2))]; rfl
/-- The next line is marked. -/
theorem Mkd3.mark {N B : Nat} {w0 w : World} {L : Nat} {X : Nat → Option Addr} {C : Nat → Nat} {F : Nat → List LineV} {col : Nat → Nat} {i j : Nat} (h : Mkd3 N B w0 w L X C F col i j) (hi : i < N) (hj : j < (F i).length)
    (hX : ∀ g, X i = some ⟨g, 0, none⟩ → B ≤ g) : ∃ g a b c, X i = some ⟨g, 0, none⟩ ∧ w.cell? ⟨g, j * 3, none⟩ = some a ∧ w.cell? ⟨g, j * 3 + 1, none⟩ = some b ∧ w.cell? ⟨g, j * 3 + 2, none⟩ = some c ∧ (∀ p, w.frozen? ⟨g, p, none⟩ = false) ∧
      Mkd3 N B w0 (((w.setCell ⟨g, j * 3, none⟩ (.string ⟨#[]⟩)).setCell ⟨g, j * 3 + 1, none⟩ (.string ⟨#[]⟩)).setCell ⟨g, j * 3 + 2, none⟩ (.int .i64 (-1 - (i : Int)))) L X C F col i (j + 1) := by
  have he := h.ent i hi
  rw [if_neg (by omega), if_pos rfl] at he
  have he2 := he
  rcases he2 with ⟨h1, h2⟩ | ⟨g, n, c, cur, h1, h2, h3, ⟨h4, h5, h6⟩, h7⟩
  · unfold lv3 at h1
    injection h1 with _ e _
    omega
  · unfold lv3 at h1
    injection h1 with e1 e2 e3
    subst e2 e3
    have hcell : ∀ r, r < 3 → ∃ v, w.cell? ⟨g, j * 3 + r, none⟩ = some v := fun r hr => by
      rw [cell_of_row w g _ cur _ _ h3]
      exact ⟨_, Array.getElem?_eq_getElem (by omega)⟩
    obtain ⟨va, hva⟩ := hcell 0 (by decide)
    obtain ⟨vb, hvb⟩ := hcell 1 (by decide)
    obtain ⟨vc, hvc⟩ := hcell 2 (by decide)
    obtain ⟨lcur, hl, hlc⟩ := h.lb
    have hne : L ≠ g := by
      rintro rfl
      rw [h3] at hl
      injection hl with hl
      injection hl with _ hl _
      exact absurd hl (by decide)
    refine ⟨g, va, vb, vc, e1, hva, hvb, hvc, fun p => by simp [World.frozen?, h3], ⟨((h.below.setCell (p := ⟨g, j * 3, none⟩) (hX g e1) _).setCell (p := ⟨g, j * 3 + 1, none⟩) (hX g e1) _).setCell (p := ⟨g, j * 3 + 2, none⟩) (hX g e1) _, ⟨lcur, ?_, hlc⟩, fun q hq => ?_⟩⟩
    · rw [Below.heap_setCell _ _ _ _ hne, Below.heap_setCell _ _ _ _ hne, Below.heap_setCell _ _ _ _ hne]; exact hl
    · have m0 : (mkLn (col g))[(j * 3) % 3]? = some (.string ⟨#[]⟩) := by rw [show (j * 3) % 3 = 0 by omega]; rfl
      have m1 : (mkLn (col g))[(j * 3 + 1) % 3]? = some (.string ⟨#[]⟩) := by rw [show (j * 3 + 1) % 3 = 1 by omega]; rfl
      have m2 : (mkLn (col g))[(j * 3 + 2) % 3]? = some (.int .i64 (-1 - (i : Int))) := by rw [show (j * 3 + 2) % 3 = 2 by omega, h2]; rfl
      have hk := (((h.ent q hq).set (p := j * 3) m0).set (p := j * 3 + 1) m1).set (p := j * 3 + 2) m2
      by_cases h1 : q = i
      · subst h1
        rw [if_neg (by omega), if_pos rfl] at hk ⊢
        unfold lv3 at hk ⊢
        rw [e1] at hk ⊢
        exact hk.up (cell_set3 w g (j * 3) _ _ _ va vb vc hva hvb hvc)
      · have e0 : (if q < i then (F q).length else if q = i then j + 1 else 0) = (if q < i then (F q).length else if q = i then j else 0) := by rw [if_neg h1, if_neg h1]
        rw [e0]
        exact hk

/-- The lists grown so far. -/
structure Grw3 (N B : Nat) (w0 w : World) (B2 L : Nat) (X : Nat → Option Addr) (C : Nat → Nat) (F : Nat → List LineV) (n : Nat) (al : Value) (vs : List Value) (col : Nat → Nat) : Prop where
  below : Below B w0 w
  b1 : B ≤ B2
  b2 : L < B2
  b3 : B2 ≤ w.heap.size
  lb : LB3 N w L (lv3 X F C)
  all : w.ownsRow B2 27 1 al n vs
  ent : ∀ q, q < N → Ent w 35 3 mkLn col q (lv3 X F C q) (F q).length
  ents : ∀ t v, vs[t]? = some v → ∃ x len c, v = .slice x len c ∧ len ≤ 8100 ∧ Ent w 35 3 mkLn col (t / 5) v len
/-- The one that is grown now. -/
def Now3 (B : Nat) (w : World) (col : Nat → Nat) (i j : Nat) (x : Option Addr) (len c : Nat) : Prop := len ≤ 8001 + j ∧ Ent w 35 3 mkLn col i (.slice x len c) len ∧ ∀ g, x = some ⟨g, 0, none⟩ → B ≤ g
section
variable {N B B2 L n : Nat} {w0 w w' : World} {X : Nat → Option Addr} {C : Nat → Nat} {F : Nat → List LineV} {al : Value} {vs : List Value} {col : Nat → Nat}
theorem Mkd3.grw (h : Mkd3 N B w0 w L X C F col N 0) (hB : B ≤ w0.heap.size) : Grw3 N B w0 w w.heap.size L X C F 0 (.slice none 0 0) [] col :=
  ⟨h.below, Nat.le_trans hB h.below.size, h.lb.lt, Nat.le_refl _, h.lb, World.ownsRow_nil _ _ _ _, fun q hq => by have := h.ent q hq; rw [if_pos hq] at this; exact this, fun t v hv => by cases hv⟩
theorem Grw3.now (h : Grw3 N B w0 w B2 L X C F n al vs col) {i : Nat} (hi : i < N) (hl : (F i).length ≤ 8001) (hX : ∀ g, X i = some ⟨g, 0, none⟩ → B ≤ g) : Now3 B w col i 0 (X i) (F i).length (C i) := ⟨by omega, h.ent i hi, hX⟩
theorem Grw3.push (h : Grw3 N B w0 w B2 L X C F n al vs col) {i j : Nat} {x : Option Addr} {len c : Nat} (hx : Now3 B w col i j x len c) (hj : j ≤ 6) (hn : n / 5 = i) {o : Obj} (hg : (w.alloc o).grownBy w' al.ownBlock) {al' : Value} (ho : w'.ownsRow B2 27 1 al' (n + 1) (vs ++ [.slice x len c])) :
    Grw3 N B w0 w' B2 L X C F (n + 1) al' (vs ++ [.slice x len c]) col ∧ Now3 B w' col i j x len c := by
  have hg' : w.grownBy w' al.ownBlock := ⟨hg.os, hg.tape, hg.output, Nat.le_trans (by simp) hg.size, fun k hk hne => (hg.block k (by simp; omega) hne).trans ((below_one w o).block k hk)⟩
  have hne : 27 ≠ 35 := by decide
  have hb : Below B2 w w' := (Below.refl B2 w).grown hg' h.b3 (fun k hk => (World.ownsRow.lt h.all k hk).1)
  have he : ∀ q v m, Ent w 35 3 mkLn col q v m → Ent w' 35 3 mkLn col q v m := fun q v m hv => hv.grown h.all hg' hne
  have hll := h.lb.lt
  refine ⟨⟨h.below.trans (hb.mono h.b1), h.b1, h.b2, Nat.le_trans h.b3 hg'.size, ?_, ho, fun q hq => he _ _ _ (h.ent q hq), fun t v hv => ?_⟩, hx.1, he _ _ _ hx.2.1, hx.2.2⟩
  · obtain ⟨cur, h1, h2⟩ := h.lb
    exact ⟨cur, by rw [hb.block L h.b2]; exact h1, h2⟩
  · have hlen : vs.length = n := by have := h.all.1; omega
    by_cases ht : t < n
    · rw [List.getElem?_append_left (by omega)] at hv
      obtain ⟨x1, l1, c1, e, hl, hh⟩ := h.ents t v hv
      exact ⟨x1, l1, c1, e, hl, he _ _ _ hh⟩
    · rw [List.getElem?_append_right (by omega), hlen] at hv
      have ht0 : t - n = 0 := by
        rcases Nat.eq_zero_or_pos (t - n) with h0 | h0
        · exact h0
        · rw [List.getElem?_eq_none (by simp; omega)] at hv; cases hv
      obtain rfl : t = n := by omega
      rw [Nat.sub_self] at hv
      obtain rfl : Value.slice x len c = v := by simpa using hv
      have := hx.1
      exact ⟨x, len, c, rfl, by omega, by rw [hn]; exact he _ _ _ hx.2.1⟩
theorem Grw3.grow (h : Grw3 N B w0 w B2 L X C F n al vs col) (hb : Below B w w') {col' : Nat → Nat} (he : ∀ q v m, Ent w 35 3 mkLn col q v m → Ent w' 35 3 mkLn col' q v m)
    (hh : ∀ (g : Nat) cs t2, t2 ≠ 35 → w.heap[g]? = some (Obj.cells cs t2 (0, 0)) → w'.heap[g]? = some (Obj.cells cs t2 (0, 0))) : Grw3 N B w0 w' B2 L X C F n al vs col' := by
  have hne : 27 ≠ 35 := by decide
  refine ⟨h.below.trans hb, h.b1, h.b2, Nat.le_trans h.b3 hb.size, ?_, ?_, fun q hq => he _ _ _ (h.ent q hq), fun t v hv => ?_⟩
  · obtain ⟨cur, h1, h2⟩ := h.lb
    exact ⟨cur, hh _ _ _ hne h1, h2⟩
  · refine ⟨h.all.1, ?_⟩
    rcases h.all.2 with h1 | ⟨g, cap, cur, h1, h2, h3, h4⟩
    · exact .inl h1
    · exact .inr ⟨g, cap, cur, h1, h2, hh _ _ _ hne h3, h4⟩
  · obtain ⟨x1, l1, c1, e, hl, hh⟩ := h.ents t v hv
    exact ⟨x1, l1, c1, e, hl, he _ _ _ hh⟩
theorem Grw3.below' (h : Grw3 N B w0 w B2 L X C F n al vs col) (hB : B ≤ w0.heap.size) (hb : Below w.heap.size w w') : Grw3 N B w0 w' B2 L X C F n al vs col :=
  h.grow (hb.mono (Nat.le_trans hB h.below.size)) (fun q v m hv => hv.below hb) (fun g cs t2 _ hg => by rw [hb.block g (heap_lt hg)]; exact hg)
theorem Now3.below' {i j len c : Nat} {x : Option Addr} (h : Now3 B w col i j x len c) (hb : Below w.heap.size w w') : Now3 B w' col i j x len c := ⟨h.1, h.2.1.below hb, h.2.2⟩
theorem row_form {e : TypeId} (h : w.ownsRow B e 1 al n vs) (hn : 0 < n) : ∃ A cap, al = .slice (some ⟨A, 0, none⟩) n cap ∧ A < w.heap.size ∧ ∀ t v, vs[t]? = some v → w.cell? ⟨A, t, none⟩ = some v := by
  rcases h.2 with ⟨_, h2⟩ | ⟨g, cap, cur, h1, _, hg, _⟩
  · omega
  · refine ⟨g, cap, h1, heap_lt hg, fun t v hv => ?_⟩
    have := World.ownsRow.cells h (g := g) (by rw [h1]; rfl) t v hv
    rw [add_zero_at] at this
    exact this
end

/-- An append of a list to the lists. -/
theorem appendL3 {ops : Array Oper} {rest : List Oper} {o : Oper} {a : Act} {Q : Exit → Act → World → Prop} (hgd : o.guard = none) (s x : Operand)
    (ho : o.op = .call { callee := .builtin .append, args := #[s, x], argTypes := #[43, 43] }) {B n : Nat} {w : World} {v u : Value} {vs : List Value} (hown : w.ownsRow B 27 1 v n vs) (hB : B ≤ w.heap.size) (hn : n ≤ 1000000) (hu : u.oneCell' = true) (hs : a.eval s = v)
    {c : Nat} (hx : a.eval x = .slice (some ⟨w.heap.size, 0, none⟩) 1 c)
    (h : ∀ g cap w', w'.ownsRow B 27 1 (.slice (some ⟨g, 0, none⟩) (n + 1) cap) (n + 1) (vs ++ [u]) → (w.alloc (Obj.cells #[u] 27)).grownBy w' v.ownBlock → wpList Tryd.prog ops Q rest (a.put o.dst (.slice (some ⟨g, 0, none⟩) (n + 1) cap)) w') :
    wpList Tryd.prog ops Q (o :: rest) a (w.alloc (Obj.cells #[u] 27)) := by
  obtain ⟨i0, hi, hz0, hz1, hz2⟩ := info_parts infoLst3
  refine wpList_append_lies _ hgd s x _ ho B 27 i0 (.slice none 0 0) 1 24 Tryd.underlying43 hi hz0 hz1 hz2 rfl (by decide) v n vs hs (hown.alloc _) ⟨w.heap.size, 0, none⟩ 1 c [u] hx rfl (World.news_of_block (heap_alloc_new w _)) ?_ (by decide) (by unfold maxLen; omega) (by omega) (Nat.le_trans hB (below_one w _).size) _ rfl ?_
  · intro u' hu'
    rw [List.mem_singleton.1 hu']; exact hu
  · intro g cap w1 h1 h2 _ _
    exact h g cap w1 h1 h2
/-- An append of a mark. -/
theorem appendM3 {ops : Array Oper} {rest : List Oper} {o : Oper} {a : Act} {Q : Exit → Act → World → Prop} (hgd : o.guard = none) (s x : Operand)
    (ho : o.op = .call { callee := .builtin .append, args := #[s, x], argTypes := #[27, 27] }) {B i m len c : Nat} {w : World} {xa : Option Addr} {col : Nat → Nat} (hN : Now3 B w col i m xa len c) (hB : B ≤ w.heap.size) (hn : m ≤ 6) (hs : a.eval s = .slice xa len c)
    {c' G : Nat} (hG : w.heap.size = G) (hx : a.eval x = .slice (some ⟨G, 0, none⟩) 1 c')
    (h : ∀ x' l2 c2 w' col', Now3 B w' col' i (m + 1) x' l2 c2 → (∀ q v k, Ent w 35 3 mkLn col q v k → Ent w' 35 3 mkLn col' q v k) →
      (∀ (g : Nat) cs t2, t2 ≠ 35 → w.heap[g]? = some (Obj.cells cs t2 (0, 0)) → w'.heap[g]? = some (Obj.cells cs t2 (0, 0))) → Below B w w' → wpList Tryd.prog ops Q rest (a.put o.dst (.slice x' l2 c2)) w') :
    wpList Tryd.prog ops Q (o :: rest) a (w.alloc (Obj.cells #[.string ⟨#[]⟩, .string ⟨#[]⟩, .int .i64 (-1 - (i : Int))] 35)) := by
  subst hG
  obtain ⟨i0, hi, hz0, hz1, hz2⟩ := info_parts infoLine
  have hb := below_one w (Obj.cells #[.string ⟨#[]⟩, .string ⟨#[]⟩, .int .i64 (-1 - (i : Int))] 35)
  have hN' := hN.below' hb
  obtain ⟨xs, hown⟩ := hN'.2.1.owns hN'.2.2
  have hl := hN.1
  refine wpList_append_mark _ hgd s x _ ho B 35 i0 _ 3 40 Tryd.underlying27 hi hz0 hz1 hz2 rfl (by decide) _ len xs hs hown ⟨w.heap.size, 0, none⟩ c' mkLn col i hx rfl (World.news_of_block (heap_alloc_new w _)) ?_ (by unfold maxLen; omega) (by omega) (Nat.le_trans hB hb.size) hN'.2.1 ?_
  · intro u hu
    simp only [mkLn, List.mem_cons, List.not_mem_nil, or_false] at hu
    rcases hu with rfl | rfl | rfl <;> rfl
  · intro x' c2 w' col' h1 h2 h3 h4 h5
    refine h x' (len + 1) c2 w' col' ⟨by omega, h2, fun g hg => (World.ownsRow.lt h1 g (by rw [hg]; rfl)).1⟩ (fun q v k hv => h3 q v k (hv.below hb)) (fun g cs t2 hne hg => h4 g cs t2 hne (by rw [hb.block g (heap_lt hg)]; exact hg)) ((hb.mono hB).trans h5)

set_option maxHeartbeats 3200000 in
set_option maxRecDepth 100000 in
theorem apart_any (N B : Nat) (w : World) (L W cl cw : Nat) (X : Nat → Option Addr) (C : Nat → Nat) (F : Nat → List LineV) (Y : Nat → Option Addr) (D : Nat → Nat) (col : Nat → Nat) (h : Came3 N B w L W X C F Y D col) (hN : N ≤ 100) (hN0 : 0 < N) :
    Calls Tryd.prog 19 #[.slice (some ⟨L, 0, none⟩) N cl, .slice (some ⟨W, 0, none⟩) N cw] w fun e w' => e = .returned (.bool true) ∧ Below B w w' := by
  have H := Lib.hid h
  have HOB : Hid (∀ k, k < N → ∀ g, X k = some ⟨g, 0, none⟩ → B ≤ g) := Lib.hid fun k hk g hg => ((h.own k hk).lt g (by unfold lv3; rw [hg]; rfl)).1
  have HNP := Lib.hid hN0
  clear h hN0
  go_enter Tryd.func19, Tryd.ntmps19
  go_wp2
  go_loopw [5] (fun i wr => ∃ k : Nat, i = .int .i64 k ∧ k ≤ N ∧ Hid (Below w.heap.size w wr)) (fun i _ => N - (intOf i).toNat)
  case atStart => exact ⟨0, rfl, by omega, Lib.hid (Below.refl _ _)⟩
  case round =>
    obtain ⟨k, rfl, hk, HW⟩ := hrel
    by_cases hlt : k < N
    · have c1 : wr.cell? ⟨L, k, none⟩ = some (.slice (X k) (F k).length (C k)) := (H.out.lb.below HW.out).cell hlt
      have c2 : wr.cell? ⟨W, k, none⟩ = some (.slice (Y k) (F k).length (D k)) := (H.out.wb.below HW.out).cell hlt
      have q1 : (0 : Int) ≤ k := by omega
      have q2 : (k : Int) < N := by omega
      have HX : Hid (Lns wr.drew (X k) (F k)) := Lib.hid (((H.out.lns hlt).below HW.out).below (below_drewN wr 1))
      have HY : Hid (Lns wr.drew (Y k) (F k)) := Lib.hid (((H.out.want k hlt).below HW.out).below (below_drewN wr 1))
      have HL : Hid ((F k).length ≤ 4611686018427387904) := Lib.hid (by have := H.out.len k hlt; omega)
      have HLL := Lib.hid (H.out.lb.below HW.out).lt
      have HWL := Lib.hid (H.out.wb.below HW.out).lt
      go_wp2
      go_region_held3 (fun w' => w'.cell? ⟨L, k, none⟩ = some (.slice (X k) (F k).length (C k)) ∧ w'.cell? ⟨W, k, none⟩ = some (.slice (Y k) (F k).length (D k))) (first | exact ⟨c1, c2⟩ | exact ⟨z1, z2⟩)
        (first | (go_at_call 15; (with_reducible refine (isame_any (F k) (X k) (Y k) (C k) (D k) _ HX.out HY.out HL.out).mono ?_); rintro e w2 ⟨rfl, hb2⟩; have hbd := (below_drewN wr 1).trans (hb2.mono (Nat.le_refl _)); have HB2 := Lib.hid (HW.out.trans (hbd.mono HW.out.size)); have z1 : w2.cell? ⟨L, k, none⟩ = some (.slice (X k) (F k).length (C k)) := (hbd.cell (p := ⟨L, k, none⟩) HLL.out).trans c1; have z2 : w2.cell? ⟨W, k, none⟩ = some (.slice (Y k) (F k).length (D k)) := (hbd.cell (p := ⟨W, k, none⟩) HWL.out).trans c2; clear hb2 hbd))
      go_wp2
      go_roundw
      case rel => exact ⟨k + 1, by go_num, by omega, HB2⟩
      case measure => simp [intOf]; omega
    · have HM := Lib.hid (H.out.start HW.out)
      have q2 : ¬ (k : Int) < N := by omega
      clear HW
      obtain ⟨w1, hw1⟩ : ∃ w1, w1 = wr := ⟨_, rfl⟩
      subst hw1
      go_wp2
      go_loopw [7] (fun i wr => ∃ k : Nat, i = .int .i64 k ∧ k ≤ N ∧ Hid (Mkd3 N B w wr L X C F col k 0)) (fun i _ => N - (intOf i).toNat)
      case atStart => exact ⟨0, rfl, by omega, HM⟩
      case round =>
        clear HM hlt hk q2
        obtain ⟨k, rfl, hk, HM⟩ := hrel
        by_cases hlt : k < N
        · have q1 : (0 : Int) ≤ k := by omega
          have q2 : (k : Int) < N := by omega
          go_wp2
          go_loopw [8] (fun i wq => ∃ j : Nat, i = .int .i64 j ∧ j ≤ (F k).length ∧ Hid (Mkd3 N B w wq L X C F col k j)) (fun i _ => (F k).length - (intOf i).toNat)
          case atStart => exact ⟨0, rfl, by omega, HM⟩
          case round =>
            clear HM
            obtain ⟨j, rfl, hj, HM⟩ := hrel
            have hlen := H.out.len k hlt
            have c1 : wr.cell? ⟨L, k, none⟩ = some (.slice (X k) (F k).length (C k)) := HM.out.lb.cell hlt
            by_cases hjt : j < (F k).length
            · obtain ⟨g, va, vb, vc, hX, g0, g1, g2, hf, hM⟩ := HM.out.mark hlt hjt (HOB.out k hlt)
              have HN := Lib.hid hM
              have f0 := hf (j * 3)
              have f1 := hf (j * 3 + 1)
              have f2 := hf (j * 3 + 2)
              clear hM hf
              rw [hX] at c1
              obtain ⟨n, hn⟩ : ∃ n, (F k).length = n := ⟨_, rfl⟩
              rw [hn] at c1 hjt hlen
              have q3 : (0 : Int) ≤ j := by omega
              have q4 : (j : Int) < n := by omega
              have hw8 : IntKind.i64.wrap (-1 - (k : Int)) = -1 - (k : Int) := IntWalk.i64_in _ (by omega)
              clear hX
              go_wp2
              go_roundw
              case rel => exact ⟨j + 1, by go_num, by omega, HN⟩
              case measure => simp [intOf]; omega
            · have HN := Lib.hid (by have h := HM.out; rw [show j = (F k).length by omega] at h; exact h.next)
              obtain ⟨n, hn⟩ : ∃ n, (F k).length = n := ⟨_, rfl⟩
              rw [hn] at c1 hjt hlen
              have q4 : ¬ (j : Int) < n := by omega
              clear HM
              go_wp2
              go_roundw
              case rel => exact ⟨k + 1, by go_num, by omega, HN⟩
              case measure => simp [intOf]; omega
        · have HG : Hid (∃ vs col', Grw3 N B w wr wr.heap.size L X C F 0 (.slice none 0 0) vs col') := Lib.hid (by have h := HM.out; rw [show k = N by omega] at h; exact ⟨[], col, h.grw H.out.size⟩)
          have q2 : ¬ (k : Int) < N := by omega
          clear HM
          obtain ⟨B2, hB2⟩ : ∃ B2, wr.heap.size = B2 := ⟨_, rfl⟩
          rw [hB2] at HG
          clear hB2
          obtain ⟨w1, hw1⟩ : ∃ w1, w1 = wr := ⟨_, rfl⟩
          subst hw1
          go_wp2
          go_loopw [9, 10] (fun a i wr => ∃ k : Nat, i = .int .i64 k ∧ k ≤ N ∧ Hid (∃ vs col', Grw3 N B w wr B2 L X C F (5 * k) a vs col')) (fun _ i _ => N - (intOf i).toNat)
          case atStart => exact ⟨0, rfl, by omega, HG⟩
          case round =>
            clear HG hlt hk q2
            obtain ⟨k, rfl, hk, HG⟩ := hrel
            by_cases hlt : k < N
            · have c1 : wr.cell? ⟨L, k, none⟩ = some (.slice (X k) (F k).length (C k)) := by
                obtain ⟨vs, col', h⟩ := HG.out
                exact h.lb.cell hlt
              have HN : Hid (∃ vs col', Grw3 N B w wr B2 L X C F (5 * k + 0) _ vs col' ∧ Now3 B wr col' k 0 (X k) (F k).length (C k)) := Lib.hid (by
                obtain ⟨vs, col', h⟩ := HG.out
                exact ⟨vs, col', h, h.now hlt (H.out.len k hlt) (HOB.out k hlt)⟩)
              have q1 : (0 : Int) ≤ k := by omega
              have q2 : (k : Int) < N := by omega
              clear HG
              go_wp2
              go_loopw [9, 11, 12] (fun a x j wq => ∃ (m : Nat) (xa : Option Addr) (len c : Nat), j = .int .i64 m ∧ x = .slice xa len c ∧ m ≤ 5 ∧ Hid (∃ vs col', Grw3 N B w wq B2 L X C F (5 * k + m) a vs col' ∧ Now3 B wq col' k m xa len c)) (fun _ _ j _ => 5 - (intOf j).toNat)
              case atStart => exact ⟨0, _, _, _, rfl, rfl, by omega, HN⟩
              case round =>
                clear HN
                rename_i al0 x0 j0
                obtain ⟨m, xa, len, c, rfl, rfl, hm, HN⟩ := hrel
                by_cases hmt : m < 5
                · obtain ⟨vs, col', hG, hN⟩ := HN.out
                  have HG := Lib.hid hG
                  have HNN := Lib.hid hN
                  have hw8 : IntKind.i64.wrap (-1 - (k : Int)) = -1 - (k : Int) := IntWalk.i64_in _ (by omega)
                  have q3 : (0 : Int) ≤ m := by omega
                  have q4 : (m : Int) < 5 := by omega
                  clear hG hN HN c1
                  go_wp2_with (at_builtin; first
                    | (go_loud (refine appendM3 rfl _ _ rfl HNN.out (Nat.le_trans HG.out.b1 HG.out.b3) (by omega) rfl rfl rfl ?_; intro x' l2 c2 w2 col2 hn2 he2 hh2 hb2; have HG2 := Lib.hid (And.intro (HG.out.grow hb2 he2 hh2) hn2); clear hn2 he2 hh2 hb2))
                    | (refine appendL3 rfl _ _ rfl HG2.out.1.all HG2.out.1.b3 (by omega) rfl rfl rfl ?_; intro g cap w3 hown hgrow; have HN2 : Hid (∃ vs col', Grw3 N B w w3 B2 L X C F (5 * k + (m + 1)) _ vs col' ∧ Now3 B w3 col' k (m + 1) x' l2 c2) := Lib.hid (by have h := HG2.out.1.push HG2.out.2 (by omega) (by omega) hgrow hown; exact ⟨_, _, h.1, h.2⟩); clear hown hgrow))
                  go_roundw
                  case rel => exact ⟨m + 1, x', l2, c2, by go_num, rfl, by omega, HN2⟩
                  case measure => simp [intOf]; omega
                · have q4 : ¬ (m : Int) < 5 := by omega
                  go_wp2
                  go_roundw
                  case rel => exact ⟨k + 1, by go_num, by omega, Lib.hid (by
                    obtain ⟨vs, col', h1, _⟩ := HN.out
                    rw [show 5 * k + m = 5 * (k + 1) by omega] at h1
                    exact ⟨vs, col', h1⟩)⟩
                  case measure => simp [intOf]; omega
            · obtain ⟨vs, col', hG⟩ := HG.out
              rw [show 5 * k = 5 * N by omega] at hG
              have hG0 := hG.all
              obtain ⟨A, cap, hal, hAl, hcells⟩ := row_form hG0 (by have := HNP.out; omega)
              have HA : Hid (∀ t, t < 5 * N → ∃ x len c, wr.cell? ⟨A, t, none⟩ = some (.slice x len c) ∧ len ≤ 8100 ∧ Ent wr 35 3 mkLn col' (t / 5) (.slice x len c) len) := Lib.hid fun t ht => by
                have hlen : vs.length = 5 * N := by have := hG.all.1; omega
                obtain ⟨x, len, c, e, hl, he⟩ := hG.ents t vs[t] (List.getElem?_eq_getElem (by omega))
                have hc := hcells t vs[t] (List.getElem?_eq_getElem (by omega))
                exact ⟨x, len, c, by rw [hc, e], hl, by rw [← e]; exact he⟩
              have HB0 := Lib.hid hG.below
              have HBB := Lib.hid (Nat.le_trans hG.b1 hG.b3)
              have q2 : ¬ (k : Int) < N := by omega
              clear HG hG hG0 hcells
              subst hal
              obtain ⟨M, hM⟩ : ∃ M, 5 * N = M := ⟨_, rfl⟩
              have hMl : M ≤ 500 := by omega
              rw [hM] at HA ⊢
              clear hM
              obtain ⟨w2, hw2⟩ : ∃ w2, w2 = wr := ⟨_, rfl⟩
              subst hw2
              go_wp2
              go_loopw [13] (fun i wr => ∃ t : Nat, i = .int .i64 t ∧ t ≤ M ∧ Hid (Below w2.heap.size w2 wr)) (fun i _ => M - (intOf i).toNat)
              case atStart => exact ⟨0, rfl, by omega, Lib.hid (Below.refl _ _)⟩
              case round =>
                clear hlt hk q2
                obtain ⟨t, rfl, ht, HW⟩ := hrel
                by_cases htt : t < M
                · obtain ⟨x, len, c, hc, hle, he⟩ := HA.out t htt
                  have c1 := (HW.out.cell (p := ⟨A, t, none⟩) hAl).trans hc
                  have HE := Lib.hid he
                  have HC := Lib.hid hc
                  have q5 : (0 : Int) ≤ t := by omega
                  have q6 : (t : Int) < M := by omega
                  clear hc he
                  go_wp2
                  go_loopw [14] (fun j wq => ∃ m : Nat, j = .int .i64 m ∧ m ≤ len ∧ Hid (Below w2.heap.size w2 wq)) (fun j _ => len - (intOf j).toNat)
                  case atStart => exact ⟨0, rfl, by omega, HW⟩
                  case round =>
                    clear HW c1
                    obtain ⟨m, rfl, hm, HW⟩ := hrel
                    by_cases hmt : m < len
                    · obtain ⟨g, rfl, hg, hc⟩ := HE.out.cells hmt
                      obtain ⟨q, hq⟩ : ∃ q, t / 5 = q := ⟨_, rfl⟩
                      rw [hq] at hc
                      have hqi : (t : Int) / 5 = q := by omega
                      have hqt : (t : Int).tdiv 5 = q := by rw [Int.tdiv_eq_ediv_of_nonneg q5]; exact hqi
                      have hqw : IntKind.i64.wrap (q : Int) = q := IntWalk.i64_in _ (by omega)
                      have hw8 : IntKind.i64.wrap (-1 - (q : Int)) = -1 - (q : Int) := IntWalk.i64_in _ (by omega)
                      have c1 : wr.cell? ⟨A, t, none⟩ = some (.slice (some ⟨g, 0, none⟩) len c) := (HW.out.cell (p := ⟨A, t, none⟩) hAl).trans HC.out
                      have k0 : wr.cell? ⟨g, m * 3, none⟩ = some (.string ⟨#[]⟩) := (HW.out.cell (p := ⟨g, m * 3, none⟩) hg).trans (hc 0 (by decide))
                      have k1 : wr.cell? ⟨g, m * 3 + 1, none⟩ = some (.string ⟨#[]⟩) := (HW.out.cell (p := ⟨g, m * 3 + 1, none⟩) hg).trans (hc 1 (by decide))
                      have k2 : wr.cell? ⟨g, m * 3 + 2, none⟩ = some (.int .i64 (-1 - (q : Int))) := (HW.out.cell (p := ⟨g, m * 3 + 2, none⟩) hg).trans (hc 2 (by decide))
                      have hne := lneq_self ⟨⟨#[]⟩, ⟨#[]⟩, -1 - (q : Int)⟩
                      simp only at hne
                      have hgd := lneq_guard
                      have q7 : (0 : Int) ≤ m := by omega
                      have q8 : (m : Int) < len := by omega
                      clear hc hq
                      go_wp2
                      go_roundw
                      case rel => exact ⟨m + 1, by go_num, by omega, HW⟩
                      case measure => simp [intOf]; omega
                    · have c1 : wr.cell? ⟨A, t, none⟩ = some (.slice x len c) := (HW.out.cell (p := ⟨A, t, none⟩) hAl).trans HC.out
                      have q8 : ¬ (m : Int) < len := by omega
                      go_wp2
                      go_roundw
                      case rel => exact ⟨t + 1, by go_num, by omega, HW⟩
                      case measure => simp [intOf]; omega
                · have q6 : ¬ (t : Int) < M := by omega
                  go_wp2
                  go_ret
                  exact ⟨rfl, HB0.out.trans (HW.out.mono HBB.out)⟩
end Go.Proofs.YtbpbiakdigjcnaaDoor
