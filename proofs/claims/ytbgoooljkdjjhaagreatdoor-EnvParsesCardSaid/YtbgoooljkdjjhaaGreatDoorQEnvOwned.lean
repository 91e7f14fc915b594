/-
  EnvOwned.
-/
import Derived.Test.YtbgoooljkdjjhaaGreatDoorQEnvParse
import Derived.Test.YtbgoooljkdjjhaaGreatDoorQGivOwn
import Derived.Test.YtbgoooljkdjjhaaGreatDoorQMarks
import Derived.Deep.RegionHeld3
import Derived.Deep.AppendLies
import Derived.IntWalk
namespace Go.Proofs.YtbgoooljkdjjhaaGreatDoor
open Go.ChangeShapes Go.WideShapes Go.ChangeAt Go.RowKit

/-- The mark of an owner. -/
def mkGv (i : Nat) : List Value := [.string ⟨#[]⟩, .string ⟨#[]⟩, .int .i64 (-1 - (i : Int))]
theorem Ent.upG {w : World} {e : TypeId} {sz : Nat} {mk : Nat → List Value} {col : Nat → Nat} {i g n c k : Nat} (h : Ent w e sz mk col i (.slice (some ⟨g, 0, none⟩) n c) k) (hc : ∀ r, r < sz → w.cell? ⟨g, k * sz + r, none⟩ = (mk i)[r]?) : Ent w e sz mk col i (.slice (some ⟨g, 0, none⟩) n c) (k + 1) := by
  rcases h with ⟨h, _⟩ | ⟨g', n', c', cur, h1, h2, h3, h4, h5⟩
  · cases h
  · injection h1 with e1 e2 e3
    have eg : g = g' := by simpa using e1
    subst eg e2 e3
    refine .inr ⟨g, n, c, cur, rfl, h2, h3, h4, fun j hj => ?_⟩
    by_cases hk : j < k * sz
    · exact h5 j hk
    · rw [Nat.add_mul, Nat.one_mul] at hj
      have hr : j - k * sz < sz := by omega
      have h6 := hc (j - k * sz) hr
      rw [show k * sz + (j - k * sz) = j by omega, cell_of_row w g j cur e (0, 0) h3] at h6
      have hm : j % sz = j - k * sz := by
        conv => lhs; rw [show j = (j - k * sz) + sz * k by rw [Nat.mul_comm sz k]; omega]
        rw [Nat.add_mul_mod_self_left, Nat.mod_eq_of_lt hr]
      rw [h6, hm]
theorem Ent.cellsG {w : World} {e : TypeId} {sz : Nat} {mk : Nat → List Value} {col : Nat → Nat} {i n k : Nat} {x : Option Addr} {c : Nat} (h : Ent w e sz mk col i (.slice x n c) n) (hk : k < n) : ∃ g, x = some ⟨g, 0, none⟩ ∧ g < w.heap.size ∧ ∀ r, r < sz → w.cell? ⟨g, k * sz + r, none⟩ = (mk i)[r]? := by
  rcases h with ⟨h, h0⟩ | ⟨g, n', c', cur, h1, h2, h3, h4, h5⟩
  · omega
  · injection h1 with e1 e2 e3
    subst e1
    refine ⟨g, rfl, heap_lt h3, fun r hr => ?_⟩
    have hlt : k * sz + r < n * sz := by
      have : (k + 1) * sz ≤ n * sz := Nat.mul_le_mul_right _ hk
      rw [Nat.add_mul, Nat.one_mul] at this
      omega
    rw [cell_of_row w g _ cur e (0, 0) h3, h5 _ hlt]
    rw [show (k * sz + r) % sz = r by rw [Nat.add_comm, Nat.mul_comm k sz, Nat.add_mul_mod_self_left, Nat.mod_eq_of_lt hr]]
theorem infoLstG : (Tryz.prog.info? 23).map (fun i => (i.zero, i.size, i.bytes)) = some (some (.slice none 0 0), 1, 24) := by kernel_rfl
/-- A block with lists in it. -/
def LBG (N : Nat) (w : World) (L : Nat) (V : Nat → Value) : Prop := ∃ cur, w.heap[L]? = some (Obj.cells cur 23 (0, 0)) ∧ ∀ k, k < N → cur[k]? = some (V k)
theorem LBG.lt {N : Nat} {w : World} {L : Nat} {V : Nat → Value} (h : LBG N w L V) : L < w.heap.size := by obtain ⟨_, h, _⟩ := h; exact heap_lt h
theorem LBG.cell {N : Nat} {w : World} {L : Nat} {V : Nat → Value} (h : LBG N w L V) {k : Nat} (hk : k < N) : w.cell? ⟨L, k, none⟩ = some (V k) := by
  obtain ⟨cur, h, hc⟩ := h
  rw [cell_of_row w L k cur _ _ h]; exact hc k hk
theorem LBG.below {N : Nat} {w w' : World} {L : Nat} {V : Nat → Value} (h : LBG N w L V) (hb : Below w.heap.size w w') : LBG N w' L V := by
  have hl := h.lt
  obtain ⟨cur, h, hc⟩ := h
  exact ⟨cur, by rw [hb.block L hl]; exact h, hc⟩
/-- A list as a value. -/
def lvG (X : Nat → Option Addr) (F : Nat → List GivV) (C : Nat → Nat) (k : Nat) : Value := .slice (X k) (F k).length (C k)
/-- The lists that came out, and as they should read. -/
structure CameG (N B : Nat) (w : World) (L : Nat) (X : Nat → Option Addr) (C : Nat → Nat) (F : Nat → List GivV) (col : Nat → Nat) : Prop where
  lb : LBG N w L (lvG X F C)
  own : ∀ k, k < N → w.ownsRow B 27 3 (lvG X F C k) (F k).length (gFlat (F k))
  col : ∀ k, k < N → ∀ g, X k = some ⟨g, 0, none⟩ → col g = k
  len : ∀ k, k < N → (F k).length ≤ 2147483647
  size : B ≤ w.heap.size
theorem CameG.lns {N B : Nat} {w : World} {L : Nat} {X : Nat → Option Addr} {C : Nat → Nat} {F : Nat → List GivV} {col : Nat → Nat} (h : CameG N B w L X C F col) {k : Nat} (hk : k < N) : Givs w (X k) (F k) := by
  obtain ⟨x, c, e, hl⟩ := Givs.of_own (h.own k hk) rfl
  unfold lvG at e
  injection e with e1 _ _
  rw [e1]; exact hl
/-- The lists, as far as they are marked. -/
structure MkdG (N B : Nat) (w0 w : World) (L : Nat) (X : Nat → Option Addr) (C : Nat → Nat) (F : Nat → List GivV) (col : Nat → Nat) (i j : Nat) : Prop where
  below : Below B w0 w
  lb : LBG N w L (lvG X F C)
  ent : ∀ q, q < N → Ent w 27 3 mkGv col q (lvG X F C q) (if q < i then (F q).length else if q = i then j else 0)
theorem MkdG.below' {N B : Nat} {w0 w w' : World} {L : Nat} {X : Nat → Option Addr} {C : Nat → Nat} {F : Nat → List GivV} {col : Nat → Nat} {i j : Nat} (h : MkdG N B w0 w L X C F col i j) (hB : B ≤ w0.heap.size) (hb : Below w.heap.size w w') : MkdG N B w0 w' L X C F col i j :=
  ⟨h.below.trans (hb.mono (Nat.le_trans hB h.below.size)), h.lb.below hb, fun q hq => (h.ent q hq).below hb⟩
theorem MkdG.next {N B : Nat} {w0 w : World} {L : Nat} {X : Nat → Option Addr} {C : Nat → Nat} {F : Nat → List GivV} {col : Nat → Nat} {i : Nat} (h : MkdG N B w0 w L X C F col i (F i).length) : MkdG N B w0 w L X C F col (i + 1) 0 :=
  ⟨h.below, h.lb, fun q hq => by
    have := h.ent q hq
    by_cases h1 : q < i
    · rw [if_pos h1] at this; rw [if_pos (by omega)]; exact this
    · by_cases h2 : q = i
      · subst h2
        rw [if_neg (by omega), if_pos rfl] at this; rw [if_pos (by omega)]; exact this
      · rw [if_neg h1, if_neg h2] at this; rw [if_neg (by omega)]
        split <;> exact this⟩
theorem CameG.start {N B : Nat} {w w' : World} {L : Nat} {X : Nat → Option Addr} {C : Nat → Nat} {F : Nat → List GivV} {col : Nat → Nat} (h : CameG N B w L X C F col) (hb : Below w.heap.size w w') : MkdG N B w w' L X C F col 0 0 :=
  ⟨hb.mono h.size, h.lb.below hb, fun q hq => by
    have e0 : (if q < 0 then (F q).length else if q = 0 then 0 else 0) = 0 := by rw [if_neg (by omega)]; split <;> rfl
    rw [e0]
    refine Ent.below ?_ hb
    rcases (h.own q hq).2 with ⟨h1, h2⟩ | ⟨g, cap, cur, h1, h2, h3, h4, h5, h6, _⟩
    · exact .inl ⟨h1, rfl⟩
    · refine .inr ⟨g, _, _, _, h1, h.col q hq g ?_, h3, ⟨h4, h5, h6⟩, fun j hj => by omega⟩
      unfold lvG at h1
      injection h1⟩
theorem cell_set3 (w : World) (g p : Nat) (a b c va vb vc : Value) (h0 : w.cell? ⟨g, p, none⟩ = some va) (h1 : w.cell? ⟨g, p + 1, none⟩ = some vb) (h2 : w.cell? ⟨g, p + 2, none⟩ = some vc) : ∀ r, r < 3 → (((w.setCell ⟨g, p, none⟩ a).setCell ⟨g, p + 1, none⟩ b).setCell ⟨g, p + 2, none⟩ c).cell? ⟨g, p + r, none⟩ = [a, b, c][r]? := by
  have o : ∀ (V : World) (i j : Nat) (u : Value), ¬ i = j → (V.setCell ⟨g, i, none⟩ u).cell? ⟨g, j, none⟩ = V.cell? ⟨g, j, none⟩ := fun V i j u hn => World.cell?_setCell_other _ _ _ _ (fun e => hn (by injection e))
  intro r hr
  have h3 : r = 0 ∨ r = 1 ∨ r = 2 := by omega
  rcases h3 with rfl | rfl | rfl
  · show World.cell? _ ⟨g, p, none⟩ = _
    rw [o _ _ _ _ (by omega), o _ _ _ _ (by omega), World.cell?_setCell_same _ _ _ h0]; rfl
  · rw [o _ _ _ _ (by omega), World.cell?_setCell_same _ _ _ ((o _ _ _ _ (by omega)).trans h1)]; rfl
  · rw [World.cell?_setCell_same _ _ _ ((o _ _ _ _ (by omega)).trans ((o _ _ _ _ (by omega)).trans h2))]; rfl
/-- The next line is marked. -/
theorem MkdG.mark {N B : Nat} {w0 w : World} {L : Nat} {X : Nat → Option Addr} {C : Nat → Nat} {F : Nat → List GivV} {col : Nat → Nat} {i j : Nat} (h : MkdG N B w0 w L X C F col i j) (hi : i < N) (hj : j < (F i).length)
    (hX : ∀ g, X i = some ⟨g, 0, none⟩ → B ≤ g) : ∃ g a b c, X i = some ⟨g, 0, none⟩ ∧ w.cell? ⟨g, j * 3, none⟩ = some a ∧ w.cell? ⟨g, j * 3 + 1, none⟩ = some b ∧ w.cell? ⟨g, j * 3 + 2, none⟩ = some c ∧ (∀ p, w.frozen? ⟨g, p, none⟩ = false) ∧
      MkdG N B w0 (((w.setCell ⟨g, j * 3, none⟩ (.string ⟨#[]⟩)).setCell ⟨g, j * 3 + 1, none⟩ (.string ⟨#[]⟩)).setCell ⟨g, j * 3 + 2, none⟩ (.int .i64 (-1 - (i : Int)))) L X C F col i (j + 1) := by
  have he := h.ent i hi
  rw [if_neg (by omega), if_pos rfl] at he
  have he2 := he
  rcases he2 with ⟨h1, h2⟩ | ⟨g, n, c, cur, h1, h2, h3, ⟨h4, h5, h6⟩, h7⟩
  · unfold lvG at h1
    injection h1 with _ e _
    omega
  · unfold lvG at h1
    injection h1 with e1 e2 e3
    subst e2 e3
    have hcell : ∀ r, r < 3 → ∃ v, w.cell? ⟨g, j * 3 + r, none⟩ = some v := fun r hr => by
      rw [cell_of_row w g _ cur _ _ h3]
      exact ⟨_, Array.getElem?_eq_getElem (by omega)⟩
    obtain ⟨va, hva⟩ := hcell 0 (by decide)
    obtain ⟨vb, hvb⟩ := hcell 1 (by decide)
    obtain ⟨vc, hvc⟩ := hcell 2 (by decide)
    obtain ⟨lcur, hl, hlc⟩ := h.lb
    have hne : L ≠ g := by
      rintro rfl
      rw [h3] at hl
      injection hl with hl
      injection hl with _ hl _
      exact absurd hl (by decide)
    refine ⟨g, va, vb, vc, e1, hva, hvb, hvc, fun p => by simp [World.frozen?, h3], ⟨((h.below.setCell (p := ⟨g, j * 3, none⟩) (hX g e1) _).setCell (p := ⟨g, j * 3 + 1, none⟩) (hX g e1) _).setCell (p := ⟨g, j * 3 + 2, none⟩) (hX g e1) _, ⟨lcur, ?_, hlc⟩, fun q hq => ?_⟩⟩
    · rw [Below.heap_setCell _ _ _ _ hne, Below.heap_setCell _ _ _ _ hne, Below.heap_setCell _ _ _ _ hne]; exact hl
    · have m0 : (mkGv (col g))[(j * 3) % 3]? = some (.string ⟨#[]⟩) := by rw [show (j * 3) % 3 = 0 by omega]; rfl
      have m1 : (mkGv (col g))[(j * 3 + 1) % 3]? = some (.string ⟨#[]⟩) := by rw [show (j * 3 + 1) % 3 = 1 by omega]; rfl
      have m2 : (mkGv (col g))[(j * 3 + 2) % 3]? = some (.int .i64 (-1 - (i : Int))) := by rw [show (j * 3 + 2) % 3 = 2 by omega, h2]; rfl
      have hk := (((h.ent q hq).set (p := j * 3) m0).set (p := j * 3 + 1) m1).set (p := j * 3 + 2) m2
      by_cases h1 : q = i
      · subst h1
        rw [if_neg (by omega), if_pos rfl] at hk ⊢
        unfold lvG at hk ⊢
        rw [e1] at hk ⊢
        exact hk.upG (cell_set3 w g (j * 3) _ _ _ va vb vc hva hvb hvc)
      · have e0 : (if q < i then (F q).length else if q = i then j + 1 else 0) = (if q < i then (F q).length else if q = i then j else 0) := by rw [if_neg h1, if_neg h1]
        rw [e0]
        exact hk

/-- The lists grown so far. -/
structure GrwG (N B : Nat) (w0 w : World) (B2 L : Nat) (X : Nat → Option Addr) (C : Nat → Nat) (F : Nat → List GivV) (n : Nat) (al : Value) (vs : List Value) (col : Nat → Nat) : Prop where
  below : Below B w0 w
  b1 : B ≤ B2
  b2 : L < B2
  b3 : B2 ≤ w.heap.size
  lb : LBG N w L (lvG X F C)
  all : w.ownsRow B2 23 1 al n vs
  ent : ∀ q, q < N → Ent w 27 3 mkGv col q (lvG X F C q) (F q).length
  ents : ∀ t v, vs[t]? = some v → ∃ x len c, v = .slice x len c ∧ len ≤ 2147483700 ∧ Ent w 27 3 mkGv col (t / 6) v len
/-- The one that is grown now. -/
def NowG (B : Nat) (w : World) (col : Nat → Nat) (i j : Nat) (x : Option Addr) (len c : Nat) : Prop := len ≤ 2147483647 + j ∧ Ent w 27 3 mkGv col i (.slice x len c) len ∧ ∀ g, x = some ⟨g, 0, none⟩ → B ≤ g
section
variable {N B B2 L n : Nat} {w0 w w' : World} {X : Nat → Option Addr} {C : Nat → Nat} {F : Nat → List GivV} {al : Value} {vs : List Value} {col : Nat → Nat}
theorem MkdG.grw (h : MkdG N B w0 w L X C F col N 0) (hB : B ≤ w0.heap.size) : GrwG N B w0 w w.heap.size L X C F 0 (.slice none 0 0) [] col :=
  ⟨h.below, Nat.le_trans hB h.below.size, h.lb.lt, Nat.le_refl _, h.lb, World.ownsRow_nil _ _ _ _, fun q hq => by have := h.ent q hq; rw [if_pos hq] at this; exact this, fun t v hv => by cases hv⟩
theorem GrwG.now (h : GrwG N B w0 w B2 L X C F n al vs col) {i : Nat} (hi : i < N) (hl : (F i).length ≤ 2147483647) (hX : ∀ g, X i = some ⟨g, 0, none⟩ → B ≤ g) : NowG B w col i 0 (X i) (F i).length (C i) := ⟨by omega, h.ent i hi, hX⟩
theorem GrwG.push (h : GrwG N B w0 w B2 L X C F n al vs col) {i j : Nat} {x : Option Addr} {len c : Nat} (hx : NowG B w col i j x len c) (hj : j ≤ 6) (hn : n / 6 = i) {o : Obj} (hg : (w.alloc o).grownBy w' al.ownBlock) {al' : Value} (ho : w'.ownsRow B2 23 1 al' (n + 1) (vs ++ [.slice x len c])) :
    GrwG N B w0 w' B2 L X C F (n + 1) al' (vs ++ [.slice x len c]) col ∧ NowG B w' col i j x len c := by
  have hg' : w.grownBy w' al.ownBlock := ⟨hg.os, hg.tape, hg.output, Nat.le_trans (by simp) hg.size, fun k hk hne => (hg.block k (by simp; omega) hne).trans ((below_one w o).block k hk)⟩
  have hne : 23 ≠ 27 := by decide
  have hb : Below B2 w w' := (Below.refl B2 w).grown hg' h.b3 (fun k hk => (World.ownsRow.lt h.all k hk).1)
  have he : ∀ q v m, Ent w 27 3 mkGv col q v m → Ent w' 27 3 mkGv col q v m := fun q v m hv => hv.grown h.all hg' hne
  have hll := h.lb.lt
  refine ⟨⟨h.below.trans (hb.mono h.b1), h.b1, h.b2, Nat.le_trans h.b3 hg'.size, ?_, ho, fun q hq => he _ _ _ (h.ent q hq), fun t v hv => ?_⟩, hx.1, he _ _ _ hx.2.1, hx.2.2⟩
  · obtain ⟨cur, h1, h2⟩ := h.lb
    exact ⟨cur, by rw [hb.block L h.b2]; exact h1, h2⟩
  · have hlen : vs.length = n := by have := h.all.1; omega
    by_cases ht : t < n
    · rw [List.getElem?_append_left (by omega)] at hv
      obtain ⟨x1, l1, c1, e, hl, hh⟩ := h.ents t v hv
      exact ⟨x1, l1, c1, e, hl, he _ _ _ hh⟩
    · rw [List.getElem?_append_right (by omega), hlen] at hv
      have ht0 : t - n = 0 := by
        rcases Nat.eq_zero_or_pos (t - n) with h0 | h0
        · exact h0
        · rw [List.getElem?_eq_none (by simp; omega)] at hv; cases hv
      obtain rfl : t = n := by omega
      rw [Nat.sub_self] at hv
      obtain rfl : Value.slice x len c = v := by simpa using hv
      have := hx.1
      exact ⟨x, len, c, rfl, by omega, by rw [hn]; exact he _ _ _ hx.2.1⟩
theorem GrwG.grow (h : GrwG N B w0 w B2 L X C F n al vs col) (hb : Below B w w') {col' : Nat → Nat} (he : ∀ q v m, Ent w 27 3 mkGv col q v m → Ent w' 27 3 mkGv col' q v m)
    (hh : ∀ (g : Nat) cs t2, t2 ≠ 27 → w.heap[g]? = some (Obj.cells cs t2 (0, 0)) → w'.heap[g]? = some (Obj.cells cs t2 (0, 0))) : GrwG N B w0 w' B2 L X C F n al vs col' := by
  have hne : 23 ≠ 27 := by decide
  refine ⟨h.below.trans hb, h.b1, h.b2, Nat.le_trans h.b3 hb.size, ?_, ?_, fun q hq => he _ _ _ (h.ent q hq), fun t v hv => ?_⟩
  · obtain ⟨cur, h1, h2⟩ := h.lb
    exact ⟨cur, hh _ _ _ hne h1, h2⟩
  · refine ⟨h.all.1, ?_⟩
    rcases h.all.2 with h1 | ⟨g, cap, cur, h1, h2, h3, h4⟩
    · exact .inl h1
    · exact .inr ⟨g, cap, cur, h1, h2, hh _ _ _ hne h3, h4⟩
  · obtain ⟨x1, l1, c1, e, hl, hh⟩ := h.ents t v hv
    exact ⟨x1, l1, c1, e, hl, he _ _ _ hh⟩
theorem GrwG.below' (h : GrwG N B w0 w B2 L X C F n al vs col) (hB : B ≤ w0.heap.size) (hb : Below w.heap.size w w') : GrwG N B w0 w' B2 L X C F n al vs col :=
  h.grow (hb.mono (Nat.le_trans hB h.below.size)) (fun q v m hv => hv.below hb) (fun g cs t2 _ hg => by rw [hb.block g (heap_lt hg)]; exact hg)
theorem NowG.below' {i j len c : Nat} {x : Option Addr} (h : NowG B w col i j x len c) (hb : Below w.heap.size w w') : NowG B w' col i j x len c := ⟨h.1, h.2.1.below hb, h.2.2⟩
theorem row_form {e : TypeId} (h : w.ownsRow B e 1 al n vs) (hn : 0 < n) : ∃ A cap, al = .slice (some ⟨A, 0, none⟩) n cap ∧ A < w.heap.size ∧ ∀ t v, vs[t]? = some v → w.cell? ⟨A, t, none⟩ = some v := by
  rcases h.2 with ⟨_, h2⟩ | ⟨g, cap, cur, h1, _, hg, _⟩
  · omega
  · refine ⟨g, cap, h1, heap_lt hg, fun t v hv => ?_⟩
    have := World.ownsRow.cells h (g := g) (by rw [h1]; rfl) t v hv
    rw [add_zero_at] at this
    exact this
end

/-- An append of a list to the lists. -/
theorem appendLG {ops : Array Oper} {rest : List Oper} {o : Oper} {a : Act} {Q : Exit → Act → World → Prop} (hgd : o.guard = none) (s x : Operand)
    (ho : o.op = .call { callee := .builtin .append, args := #[s, x], argTypes := #[49, 49] }) {B n : Nat} {w : World} {v u : Value} {vs : List Value} (hown : w.ownsRow B 23 1 v n vs) (hB : B ≤ w.heap.size) (hn : n ≤ 1000000) (hu : u.oneCell' = true) (hs : a.eval s = v)
    {c : Nat} (hx : a.eval x = .slice (some ⟨w.heap.size, 0, none⟩) 1 c)
    (h : ∀ g cap w', w'.ownsRow B 23 1 (.slice (some ⟨g, 0, none⟩) (n + 1) cap) (n + 1) (vs ++ [u]) → (w.alloc (Obj.cells #[u] 23)).grownBy w' v.ownBlock → wpList Tryz.prog ops Q rest (a.put o.dst (.slice (some ⟨g, 0, none⟩) (n + 1) cap)) w') :
    wpList Tryz.prog ops Q (o :: rest) a (w.alloc (Obj.cells #[u] 23)) := by
  obtain ⟨i0, hi, hz0, hz1, hz2⟩ := info_parts infoLstG
  refine wpList_append_lies _ hgd s x _ ho B 23 i0 (.slice none 0 0) 1 24 Tryz.underlying49 hi hz0 hz1 hz2 rfl (by decide) v n vs hs (hown.alloc _) ⟨w.heap.size, 0, none⟩ 1 c [u] hx rfl (World.news_of_block (heap_alloc_new w _)) ?_ (by decide) (by unfold maxLen; omega) (by omega) (Nat.le_trans hB (below_one w _).size) _ rfl ?_
  · intro u' hu'
    rw [List.mem_singleton.1 hu']; exact hu
  · intro g cap w1 h1 h2 _ _
    exact h g cap w1 h1 h2
/-- An append of a mark. -/
theorem appendMG {ops : Array Oper} {rest : List Oper} {o : Oper} {a : Act} {Q : Exit → Act → World → Prop} (hgd : o.guard = none) (s x : Operand)
    (ho : o.op = .call { callee := .builtin .append, args := #[s, x], argTypes := #[23, 23] }) {B i m len c : Nat} {w : World} {xa : Option Addr} {col : Nat → Nat} (hN : NowG B w col i m xa len c) (hB : B ≤ w.heap.size) (hn : m ≤ 6) (hs : a.eval s = .slice xa len c)
    {c' G : Nat} (hG : w.heap.size = G) (hx : a.eval x = .slice (some ⟨G, 0, none⟩) 1 c')
    (h : ∀ x' l2 c2 w' col', NowG B w' col' i (m + 1) x' l2 c2 → (∀ q v k, Ent w 27 3 mkGv col q v k → Ent w' 27 3 mkGv col' q v k) →
      (∀ (g : Nat) cs t2, t2 ≠ 27 → w.heap[g]? = some (Obj.cells cs t2 (0, 0)) → w'.heap[g]? = some (Obj.cells cs t2 (0, 0))) → Below B w w' → wpList Tryz.prog ops Q rest (a.put o.dst (.slice x' l2 c2)) w') :
    wpList Tryz.prog ops Q (o :: rest) a (w.alloc (Obj.cells #[.string ⟨#[]⟩, .string ⟨#[]⟩, .int .i64 (-1 - (i : Int))] 27)) := by
  subst hG
  obtain ⟨i0, hi, hz0, hz1, hz2⟩ := info_parts infoGv
  have hb := below_one w (Obj.cells #[.string ⟨#[]⟩, .string ⟨#[]⟩, .int .i64 (-1 - (i : Int))] 27)
  have hN' := hN.below' hb
  obtain ⟨xs, hown⟩ := hN'.2.1.owns hN'.2.2
  have hl := hN.1
  refine wpList_append_mark _ hgd s x _ ho B 27 i0 _ 3 40 Tryz.underlying23 hi hz0 hz1 hz2 rfl (by decide) _ len xs hs hown ⟨w.heap.size, 0, none⟩ c' mkGv col i hx rfl (World.news_of_block (heap_alloc_new w _)) ?_ (by unfold maxLen; omega) (by omega) (Nat.le_trans hB hb.size) hN'.2.1 ?_
  · intro u hu
    simp only [mkGv, List.mem_cons, List.not_mem_nil, or_false] at hu
    rcases hu with rfl | rfl | rfl <;> rfl
  · intro x' c2 w' col' h1 h2 h3 h4 h5
    refine h x' (len + 1) c2 w' col' ⟨by omega, h2, fun g hg => (World.ownsRow.lt h1 g (by rw [hg]; rfl)).1⟩ (fun q v k hv => h3 q v k (hv.below hb)) (fun g cs t2 hne hg => h4 g cs t2 hne (by rw [hb.block g (heap_lt hg)]; exact hg)) ((hb.mono hB).trans h5)

set_option maxHeartbeats 3200000 in
set_option maxRecDepth 100000 in
theorem gowned_any (N B : Nat) (w : World) (L cl : Nat) (X : Nat → Option Addr) (C : Nat → Nat) (F : Nat → List GivV) (col : Nat → Nat) (h : CameG N B w L X C F col) (hN : N ≤ 100) (hN0 : 0 < N) :
    Calls Tryz.prog 27 #[.slice (some ⟨L, 0, none⟩) N cl] w fun e w' => e = .returned (.bool true) ∧ Below B w w' := by
  have H := Lib.hid h
  have HOB : Hid (∀ k, k < N → ∀ g, X k = some ⟨g, 0, none⟩ → B ≤ g) := Lib.hid fun k hk g hg => ((h.own k hk).lt g (by unfold lvG; rw [hg]; rfl)).1
  have HNP := Lib.hid hN0
  have HM := Lib.hid (h.start (Below.refl _ _))
  clear h hN0
  go_enter Tryz.func27, Tryz.ntmps27
  go_wp2
  go_loopw [3] (fun i wr => ∃ k : Nat, i = .int .i64 k ∧ k ≤ N ∧ Hid (MkdG N B w wr L X C F col k 0)) (fun i _ => N - (intOf i).toNat)
  case atStart => exact ⟨0, rfl, by omega, HM⟩
  case round =>
    clear HM
    obtain ⟨k, rfl, hk, HM⟩ := hrel
    by_cases hlt : k < N
    · have q1 : (0 : Int) ≤ k := by omega
      have q2 : (k : Int) < N := by omega
      go_wp2
      go_loopw [4] (fun i wq => ∃ j : Nat, i = .int .i64 j ∧ j ≤ (F k).length ∧ Hid (MkdG N B w wq L X C F col k j)) (fun i _ => (F k).length - (intOf i).toNat)
      case atStart => exact ⟨0, rfl, by omega, HM⟩
      case round =>
        clear HM
        obtain ⟨j, rfl, hj, HM⟩ := hrel
        have hlen := H.out.len k hlt
        have c1 : wr.cell? ⟨L, k, none⟩ = some (.slice (X k) (F k).length (C k)) := HM.out.lb.cell hlt
        by_cases hjt : j < (F k).length
        · obtain ⟨g, va, vb, vc, hX, g0, g1, g2, hf, hM⟩ := HM.out.mark hlt hjt (HOB.out k hlt)
          have HN := Lib.hid hM
          have f0 := hf (j * 3)
          have f1 := hf (j * 3 + 1)
          have f2 := hf (j * 3 + 2)
          clear hM hf
          rw [hX] at c1
          obtain ⟨n, hn⟩ : ∃ n, (F k).length = n := ⟨_, rfl⟩
          rw [hn] at c1 hjt hlen
          have q3 : (0 : Int) ≤ j := by omega
          have q4 : (j : Int) < n := by omega
          have hw8 : IntKind.i64.wrap (-1 - (k : Int)) = -1 - (k : Int) := IntWalk.i64_in _ (by omega)
          clear hX
          go_wp2
          go_roundw
          case rel => exact ⟨j + 1, by go_num, by omega, HN⟩
          case measure => simp [intOf]; omega
        · have HN := Lib.hid (by have h := HM.out; rw [show j = (F k).length by omega] at h; exact h.next)
          obtain ⟨n, hn⟩ : ∃ n, (F k).length = n := ⟨_, rfl⟩
          rw [hn] at c1 hjt hlen
          have q4 : ¬ (j : Int) < n := by omega
          clear HM
          go_wp2
          go_roundw
          case rel => exact ⟨k + 1, by go_num, by omega, HN⟩
          case measure => simp [intOf]; omega
    · have HG : Hid (∃ vs col', GrwG N B w wr wr.heap.size L X C F 0 (.slice none 0 0) vs col') := Lib.hid (by have h := HM.out; rw [show k = N by omega] at h; exact ⟨[], col, h.grw H.out.size⟩)
      have q2 : ¬ (k : Int) < N := by omega
      clear HM
      obtain ⟨B2, hB2⟩ : ∃ B2, wr.heap.size = B2 := ⟨_, rfl⟩
      rw [hB2] at HG
      clear hB2
      obtain ⟨w1, hw1⟩ : ∃ w1, w1 = wr := ⟨_, rfl⟩
      subst hw1
      go_wp2
      go_loopw [5, 6] (fun a i wr => ∃ k : Nat, i = .int .i64 k ∧ k ≤ N ∧ Hid (∃ vs col', GrwG N B w wr B2 L X C F (6 * k) a vs col')) (fun _ i _ => N - (intOf i).toNat)
      case atStart => exact ⟨0, rfl, by omega, HG⟩
      case round =>
        clear HG hlt hk q2
        obtain ⟨k, rfl, hk, HG⟩ := hrel
        by_cases hlt : k < N
        · have c1 : wr.cell? ⟨L, k, none⟩ = some (.slice (X k) (F k).length (C k)) := by
            obtain ⟨vs, col', h⟩ := HG.out
            exact h.lb.cell hlt
          have HN : Hid (∃ vs col', GrwG N B w wr B2 L X C F (6 * k + 0) _ vs col' ∧ NowG B wr col' k 0 (X k) (F k).length (C k)) := Lib.hid (by
            obtain ⟨vs, col', h⟩ := HG.out
            exact ⟨vs, col', h, h.now hlt (H.out.len k hlt) (HOB.out k hlt)⟩)
          have q1 : (0 : Int) ≤ k := by omega
          have q2 : (k : Int) < N := by omega
          clear HG
          go_wp2
          go_loopw [5, 7, 8] (fun a x j wq => ∃ (m : Nat) (xa : Option Addr) (len c : Nat), j = .int .i64 m ∧ x = .slice xa len c ∧ m ≤ 6 ∧ Hid (∃ vs col', GrwG N B w wq B2 L X C F (6 * k + m) a vs col' ∧ NowG B wq col' k m xa len c)) (fun _ _ j _ => 6 - (intOf j).toNat)
          case atStart => exact ⟨0, _, _, _, rfl, rfl, by omega, HN⟩
          case round =>
            clear HN
            rename_i al0 x0 j0
            obtain ⟨m, xa, len, c, rfl, rfl, hm, HN⟩ := hrel
            by_cases hmt : m < 6
            · obtain ⟨vs, col', hG, hN⟩ := HN.out
              have HG := Lib.hid hG
              have HNN := Lib.hid hN
              have hw8 : IntKind.i64.wrap (-1 - (k : Int)) = -1 - (k : Int) := IntWalk.i64_in _ (by omega)
              have q3 : (0 : Int) ≤ m := by omega
              have q4 : (m : Int) < 6 := by omega
              clear hG hN HN c1
              go_wp2_with (at_builtin; first
                | (refine appendLG rfl _ _ rfl HG.out.all HG.out.b3 (by omega) rfl rfl rfl ?_; intro g cap w3 hown hgrow; have HG2 := Lib.hid (HG.out.push HNN.out (by omega) (by omega) hgrow hown); clear hown hgrow)
                | (go_loud (refine appendMG rfl _ _ rfl HG2.out.2 (Nat.le_trans HG2.out.1.b1 HG2.out.1.b3) (by omega) rfl rfl rfl ?_; intro x' l2 c2 w2 col2 hn2 he2 hh2 hb2; have HN2 : Hid (∃ vs col', GrwG N B w w2 B2 L X C F (6 * k + (m + 1)) _ vs col' ∧ NowG B w2 col' k (m + 1) x' l2 c2) := Lib.hid ⟨_, _, HG2.out.1.grow hb2 he2 hh2, hn2⟩; clear hn2 he2 hh2 hb2)))
              go_roundw
              case rel => exact ⟨m + 1, x', l2, c2, by go_num, rfl, by omega, HN2⟩
              case measure => simp [intOf]; omega
            · have q4 : ¬ (m : Int) < 6 := by omega
              go_wp2
              go_roundw
              case rel => exact ⟨k + 1, by go_num, by omega, Lib.hid (by
                obtain ⟨vs, col', h1, _⟩ := HN.out
                rw [show 6 * k + m = 6 * (k + 1) by omega] at h1
                exact ⟨vs, col', h1⟩)⟩
              case measure => simp [intOf]; omega
        · obtain ⟨vs, col', hG⟩ := HG.out
          rw [show 6 * k = 6 * N by omega] at hG
          have hG0 := hG.all
          obtain ⟨A, cap, hal, hAl, hcells⟩ := row_form hG0 (by have := HNP.out; omega)
          have HA : Hid (∀ t, t < 6 * N → ∃ x len c, wr.cell? ⟨A, t, none⟩ = some (.slice x len c) ∧ len ≤ 2147483700 ∧ Ent wr 27 3 mkGv col' (t / 6) (.slice x len c) len) := Lib.hid fun t ht => by
            have hlen : vs.length = 6 * N := by have := hG.all.1; omega
            obtain ⟨x, len, c, e, hl, he⟩ := hG.ents t vs[t] (List.getElem?_eq_getElem (by omega))
            have hc := hcells t vs[t] (List.getElem?_eq_getElem (by omega))
            exact ⟨x, len, c, by rw [hc, e], hl, by rw [← e]; exact he⟩
          have HB0 := Lib.hid hG.below
          have HBB := Lib.hid (Nat.le_trans hG.b1 hG.b3)
          have q2 : ¬ (k : Int) < N := by omega
          clear HG hG hG0 hcells
          subst hal
          obtain ⟨M, hM⟩ : ∃ M, 6 * N = M := ⟨_, rfl⟩
          have hMl : M ≤ 600 := by omega
          rw [hM] at HA ⊢
          clear hM
          obtain ⟨w2, hw2⟩ : ∃ w2, w2 = wr := ⟨_, rfl⟩
          subst hw2
          go_wp2
          go_loopw [9] (fun i wr => ∃ t : Nat, i = .int .i64 t ∧ t ≤ M ∧ Hid (Below w2.heap.size w2 wr)) (fun i _ => M - (intOf i).toNat)
          case atStart => exact ⟨0, rfl, by omega, Lib.hid (Below.refl _ _)⟩
          case round =>
            clear hlt hk q2
            obtain ⟨t, rfl, ht, HW⟩ := hrel
            by_cases htt : t < M
            · obtain ⟨x, len, c, hc, hle, he⟩ := HA.out t htt
              have c1 := (HW.out.cell (p := ⟨A, t, none⟩) hAl).trans hc
              have HE := Lib.hid he
              have HC := Lib.hid hc
              have q5 : (0 : Int) ≤ t := by omega
              have q6 : (t : Int) < M := by omega
              clear hc he
              go_wp2
              go_loopw [10] (fun j wq => ∃ m : Nat, j = .int .i64 m ∧ m ≤ len ∧ Hid (Below w2.heap.size w2 wq)) (fun j _ => len - (intOf j).toNat)
              case atStart => exact ⟨0, rfl, by omega, HW⟩
              case round =>
                clear HW c1
                obtain ⟨m, rfl, hm, HW⟩ := hrel
                by_cases hmt : m < len
                · obtain ⟨g, rfl, hg, hc⟩ := HE.out.cellsG hmt
                  obtain ⟨q, hq⟩ : ∃ q, t / 6 = q := ⟨_, rfl⟩
                  rw [hq] at hc
                  have hqi : (t : Int) / 6 = q := by omega
                  have hqt : (t : Int).tdiv 6 = q := by rw [Int.tdiv_eq_ediv_of_nonneg q5]; exact hqi
                  have hqw : IntKind.i64.wrap (q : Int) = q := IntWalk.i64_in _ (by omega)
                  have hw8 : IntKind.i64.wrap (-1 - (q : Int)) = -1 - (q : Int) := IntWalk.i64_in _ (by omega)
                  have c1 : wr.cell? ⟨A, t, none⟩ = some (.slice (some ⟨g, 0, none⟩) len c) := (HW.out.cell (p := ⟨A, t, none⟩) hAl).trans HC.out
                  have k2 : wr.cell? ⟨g, m * 3 + 2, none⟩ = some (.int .i64 (-1 - (q : Int))) := (HW.out.cell (p := ⟨g, m * 3 + 2, none⟩) hg).trans (hc 2 (by decide))
                  have hne : ((-1 - (q : Int)) != (-1 - (q : Int))) = false := by simp
                  have q7 : (0 : Int) ≤ m := by omega
                  have q8 : (m : Int) < len := by omega
                  clear hc hq
                  go_wp2
                  go_roundw
                  case rel => exact ⟨m + 1, by go_num, by omega, HW⟩
                  case measure => simp [intOf]; omega
                · have c1 : wr.cell? ⟨A, t, none⟩ = some (.slice x len c) := (HW.out.cell (p := ⟨A, t, none⟩) hAl).trans HC.out
                  have q8 : ¬ (m : Int) < len := by omega
                  go_wp2
                  go_roundw
                  case rel => exact ⟨t + 1, by go_num, by omega, HW⟩
                  case measure => simp [intOf]; omega
            · have q6 : ¬ (t : Int) < M := by omega
              go_wp2
              go_ret
              exact ⟨rfl, HB0.out.trans (HW.out.mono HBB.out)⟩
end Go.Proofs.YtbgoooljkdjjhaaGreatDoor
