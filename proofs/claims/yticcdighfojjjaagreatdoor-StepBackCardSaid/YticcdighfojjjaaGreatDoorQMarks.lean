/-
  Marks.
-/
import Derived.Maps.AppendAt
import Derived.Laws.OwnMore
import Derived.Laws.Rows
import Derived.Below
import Derived.RegionTactic
namespace Go.Proofs.YticcdighfojjjaaGreatDoor
open Go.RowKit

theorem below_one (w : World) (o : Obj) : Below w.heap.size w (w.alloc o) := (Below.refl _ w).alloc (Nat.le_refl _) o
/-- A value that reads, of its first k elements, as the mark of the owner i; blocks have owners. -/
def Ent (w : World) (e : TypeId) (sz : Nat) (mk : Nat → List Value) (col : Nat → Nat) (i : Nat) (v : Value) (k : Nat) : Prop :=
  (v = .slice none 0 0 ∧ k = 0) ∨ ∃ g n c cur, v = .slice (some ⟨g, 0, none⟩) n c ∧ col g = i ∧ w.heap[g]? = some (Obj.cells cur e (0, 0)) ∧ (n ≤ c ∧ c ≤ maxLen ∧ cur.size = c * sz) ∧ ∀ j, j < k * sz → cur[j]? = (mk i)[j % sz]?

section
variable {w w' : World} {e : TypeId} {sz : Nat} {mk : Nat → List Value} {col : Nat → Nat} {i : Nat} {v : Value} {k : Nat}

theorem Ent.same (h : Ent w e sz mk col i v k) (hb : ∀ (g : Nat) cur, w.heap[g]? = some (Obj.cells cur e (0, 0)) → w'.heap[g]? = w.heap[g]?) : Ent w' e sz mk col i v k := by
  rcases h with h | ⟨g, n, c, cur, h1, h2, h3, h4⟩
  · exact .inl h
  · exact .inr ⟨g, n, c, cur, h1, h2, by rw [hb g cur h3]; exact h3, h4⟩
theorem heap_lt {g : Nat} {o : Obj} (h : w.heap[g]? = some o) : g < w.heap.size := (Array.getElem?_eq_some_iff.1 h).1
theorem Ent.below (h : Ent w e sz mk col i v k) (hb : Below w.heap.size w w') : Ent w' e sz mk col i v k := h.same fun g _ hg => hb.block g (heap_lt hg)
/-- Another row grew. -/
theorem Ent.grown {B n : Nat} {e2 : TypeId} {s2 : Nat} {u : Value} {xs : List Value} (h : Ent w e sz mk col i v k) (hu : w.ownsRow B e2 s2 u n xs) (hg : w.grownBy w' u.ownBlock) (hne : e2 ≠ e) : Ent w' e sz mk col i v k :=
  h.same fun g cur hc => hg.block g (heap_lt hc) fun hk => by
    rcases hu.2 with ⟨rfl, _⟩ | ⟨g', cap, cur', rfl, _, hh, _⟩
    · simp [Value.ownBlock] at hk
    · have : g = g' := by simpa [Value.ownBlock] using hk
      subst this
      rw [hh] at hc
      injection hc with hc
      injection hc with _ ht
      exact hne ht
/-- A store of the owner's mark into a cell. -/
theorem Ent.set {g p : Nat} {m : Value} (h : Ent w e sz mk col i v k) (hm : (mk (col g))[p % sz]? = some m) : Ent (w.setCell ⟨g, p, none⟩ m) e sz mk col i v k := by
  rcases h with h | ⟨g', n, c, cur, h1, h2, h3, h4, h5⟩
  · exact .inl h
  · by_cases hg : g = g'
    · subst hg
      have hb : (w.setCell ⟨g, p, none⟩ m).heap[g]? = some (Obj.cells (cur.setIfInBounds p m) e (0, 0)) := by simp [World.setCell, Array.getElem?_modify, h3]
      refine .inr ⟨g, n, c, _, h1, h2, hb, by simpa using h4, fun j hj => ?_⟩
      rw [Array.getElem?_setIfInBounds]
      by_cases hp : p = j
      · subst hp
        rw [h2] at hm
        have := h5 p hj
        rw [if_pos rfl, hm]
        split
        · rfl
        · rename_i hz
          rw [Array.getElem?_eq_none (by omega), hm] at this; cases this
      · rw [if_neg hp]; exact h5 j hj
    · exact .inr ⟨g', n, c, cur, h1, h2, by rw [Below.heap_setCell _ _ _ _ (Ne.symm hg)]; exact h3, h4, h5⟩
/-- The next element, of one cell, is marked. -/
theorem Ent.next {g n c : Nat} {m : Value} (h : Ent w e 1 mk col i (.slice (some ⟨g, 0, none⟩) n c) k) (hk : k < n) (hm : mk i = [m]) : Ent (w.setCell ⟨g, k, none⟩ m) e 1 mk col i (.slice (some ⟨g, 0, none⟩) n c) (k + 1) := by
  rcases h with ⟨h, _⟩ | ⟨g', n', c', cur, h1, h2, h3, h4, h5⟩
  · cases h
  · injection h1 with e1 e2 e3
    have eg : g = g' := by simpa using e1
    subst eg e2 e3
    have hb : (w.setCell ⟨g, k, none⟩ m).heap[g]? = some (Obj.cells (cur.setIfInBounds k m) e (0, 0)) := by simp [World.setCell, Array.getElem?_modify, h3]
    refine .inr ⟨g, n, c, _, rfl, h2, hb, by simpa using h4, fun j hj => ?_⟩
    rw [Array.getElem?_setIfInBounds]
    by_cases hp : k = j
    · subst hp
      rw [if_pos rfl, if_pos (by omega), hm, Nat.mod_one]; rfl
    · rw [if_neg hp]; exact h5 j (by omega)
/-- It is a row of the call's own. -/
theorem Ent.owns {B n c : Nat} {x : Option Addr} (h : Ent w e sz mk col i (.slice x n c) k) (hB : ∀ g, x = some ⟨g, 0, none⟩ → B ≤ g) : ∃ xs, w.ownsRow B e sz (.slice x n c) n xs := by
  rcases h with ⟨h, _⟩ | ⟨g, n', c', cur, h1, h2, h3, ⟨h4, h5, h6⟩, _⟩
  · injection h with e1 e2 e3
    subst e1 e2 e3
    exact ⟨[], World.ownsRow_nil w B e sz⟩
  · injection h1 with e1 e2 e3
    subst e1 e2 e3
    exact ⟨_, by rw [List.length_take, Array.length_toList, h6]; exact Nat.min_eq_left (Nat.mul_le_mul_right _ h4), .inr ⟨g, c, cur, rfl, hB g rfl, h3, h4, h5, h6, rfl⟩⟩
/-- What is read. -/
theorem Ent.cell {n k' : Nat} {x : Option Addr} {c : Nat} {m : Value} (h : Ent w e 1 mk col i (.slice x n c) n) (hk : k' < n) (hm : mk i = [m]) : ∃ g, x = some ⟨g, 0, none⟩ ∧ g < w.heap.size ∧ w.cell? ⟨g, k', none⟩ = some m := by
  rcases h with ⟨h, h0⟩ | ⟨g, n', c', cur, h1, h2, h3, h4, h5⟩
  · omega
  · injection h1 with e1 e2 e3
    subst e1
    refine ⟨g, rfl, heap_lt h3, ?_⟩
    rw [cell_of_row w g k' cur e (0, 0) h3, h5 k' (by omega), hm, Nat.mod_one]; rfl
end

/-- A row grows by a mark of its owner's: every value reads as it read. -/
theorem run_append_mark (P : Program) (w : World) (base : Nat) (t ty e : TypeId) (i0 : TypeInfo) (z : Value) (size bytes : Nat) (ht : P.underlying t = some (.slice e)) (hi : P.info? e = some i0) (hz : i0.zero = some z)
    (hsize : i0.size = size) (hby : i0.bytes = bytes) (hzs : z.cells.size = size) (hsz : 0 < size)
    (v : Value) (n : Nat) (xs : List Value) (hown : w.ownsRow base e size v n xs)
    (ad : Addr) (c : Nat) (mk : Nat → List Value) (col : Nat → Nat) (i : Nat) (hl : (mk i).length = size) (hnews : ∀ j u, (mk i)[j]? = some u → w.cell? (ad.add j) = some u) (h1 : ∀ u ∈ mk i, u.oneCell' = true)
    (h63 : n + 1 ≤ maxLen) (hbytes : (n + 1) * bytes ≤ 140737488355328) (hbase : base ≤ w.heap.size) (hent : Ent w e size mk col i v n) :
    ∃ v' w' col', (Builtin.append_ #[t, t] ty #[v, .slice (some ad) 1 c]).run P w = .ok v' w' ∧ w'.ownsRow base e size v' (n + 1) (xs ++ mk i) ∧ Ent w' e size mk col' i v' (n + 1) ∧
      (∀ j u m, Ent w e size mk col j u m → Ent w' e size mk col' j u m) ∧ (∀ (g : Nat) cs t2, t2 ≠ e → w.heap[g]? = some (Obj.cells cs t2 (0, 0)) → w'.heap[g]? = some (Obj.cells cs t2 (0, 0))) ∧ Below base w w' := by
  subst hsize
  subst hby
  obtain ⟨v', w', hr, ho, hg, _⟩ := run_append_own (P := P) w base t ty e i0 z i0.size i0.bytes ht hi hz rfl rfl hzs hsz v n xs hown ad 1 c (mk i) (by omega) hnews h1 h63 hbytes hbase
  have hbel : Below base w w' := (Below.refl base w).grown hg hbase (fun k hk => (World.ownsRow.lt hown k hk).1)
  have fresh : (∀ g, v'.ownBlock = some g → g = w.heap.size) → Below w.heap.size w w' →
      ∃ col', Ent w' e i0.size mk col' i v' (n + 1) ∧ (∀ j u m, Ent w e i0.size mk col j u m → Ent w' e i0.size mk col' j u m) ∧ (∀ (g : Nat) cs t2, t2 ≠ e → w.heap[g]? = some (Obj.cells cs t2 (0, 0)) → w'.heap[g]? = some (Obj.cells cs t2 (0, 0))) := by
    intro hf hb
    refine ⟨fun b => if b = w.heap.size then i else col b, ?_, ?_, fun g cs t2 _ h => by rw [hb.block g (heap_lt h)]; exact h⟩
    · rcases ho.2 with ⟨_, h0⟩ | ⟨g, cap, cur, hv, _, hc, hnc, hcm, hcs, htake⟩
      · omega
      · have hgs : g = w.heap.size := hf g (by rw [hv]; rfl)
        refine .inr ⟨g, n + 1, cap, cur, hv, if_pos hgs, hc, ⟨hnc, hcm, hcs⟩, fun j hj => ?_⟩
        have e1 : cur[j]? = (xs ++ mk i)[j]? := by rw [← htake, List.getElem?_take, if_pos hj, Array.getElem?_toList]
        rw [e1]
        have hxl := hown.1
        by_cases hjn : j < n * i0.size
        · rw [List.getElem?_append_left (by omega)]
          rcases hent with ⟨_, h0⟩ | ⟨g2, n2, c2, cur2, hv2, _, hc2, _, hall⟩
          · subst h0; omega
          · rcases hown.2 with ⟨hv3, h0⟩ | ⟨g3, cap3, cur3, hv3, _, hc3, _, _, _, htake3⟩
            · subst h0; omega
            · rw [hv2] at hv3
              injection hv3 with e2 _ _
              have e2 : g2 = g3 := by simpa using e2
              subst e2
              rw [hc2] at hc3
              injection hc3 with hc3
              injection hc3 with hc3 _ _
              subst hc3
              rw [← htake3, List.getElem?_take, if_pos hjn, Array.getElem?_toList]
              exact hall j hjn
        · rw [List.getElem?_append_right (by omega), hxl]
          have : j % i0.size = j - n * i0.size := by
            have h2 : j - n * i0.size < i0.size := by rw [Nat.add_mul] at hj; omega
            conv => lhs; rw [show j = (j - n * i0.size) + i0.size * n by rw [Nat.mul_comm i0.size n]; omega]
            rw [Nat.add_mul_mod_self_left, Nat.mod_eq_of_lt h2]
          rw [this]
    · rintro j u m (h | ⟨g, n2, c2, cur, h2, h3, h4, h5, h6⟩)
      · exact .inl h
      · have hlt := heap_lt h4
        exact .inr ⟨g, n2, c2, cur, h2, by show (if g = w.heap.size then i else col g) = j; rw [if_neg (by omega)]; exact h3, by rw [hb.block g hlt]; exact h4, h5, h6⟩
  have hown2 := hown
  rcases hown2.2 with ⟨rfl, hn⟩ | ⟨g0, cap, cur, rfl, hbg, hcur, hnc, hcm, hcs, htake⟩
  · subst hn
    obtain ⟨v2, w2, hr2, ho2, hg2, _⟩ := run_append_own (P := P) w w.heap.size t ty e i0 z i0.size i0.bytes ht hi hz rfl rfl hzs hsz (.slice none 0 0) 0 xs ⟨hown.1, .inl ⟨rfl, rfl⟩⟩ ad 1 c (mk i) (by omega) hnews h1 h63 hbytes (Nat.le_refl _)
    have hr3 := run_append_nil (P := P) w t ty e i0 z ht hi hz ad 1 c (mk i) (by omega) hnews (by omega) (by omega) (by have hb := hbytes; simp only [Nat.zero_add] at hb; omega)
    rw [hr] at hr3
    injection hr3 with e1 e2
    have hb2 : Below w.heap.size w w' := by
      rw [hr] at hr2
      injection hr2 with e3 e4
      subst e4
      exact (Below.refl _ w).grown hg2 (Nat.le_refl _) (fun k hk => by simp [Value.ownBlock] at hk)
    obtain ⟨col', h2, h3, h4⟩ := fresh (fun g hgv => by rw [e1] at hgv; simp [Value.ownBlock] at hgv; omega) hb2
    exact ⟨v', w', col', hr, ho, h2, h3, h4, hbel⟩
  · by_cases hroom : n + 1 ≤ cap
    · have hfit : n * i0.size + (mk i).length ≤ cur.size := by
        rw [hl, hcs, show n * i0.size + i0.size = (n + 1) * i0.size by rw [Nat.add_mul, Nat.one_mul]]; exact Nat.mul_le_mul_right _ hroom
      have hr2 := run_append_room (P := P) w t ty e i0 ht hi g0 n cap cur hcur ad 1 c (mk i) (by omega) hnews h1 hroom hfit
      rw [hr] at hr2
      injection hr2 with e1 e2
      subst e1 e2
      have hcol : col g0 = i := by
        rcases hent with ⟨h, _⟩ | ⟨g2, n2, c2, cur2, hv2, hc2, _⟩
        · cases h
        · injection hv2 with e2 _ _
          have e2 : g0 = g2 := by simpa using e2
          subst e2; exact hc2
      have hset := setRow_heap w g0 cur (cur.toList.take (n * i0.size) ++ mk i ++ cur.toList.drop (n * i0.size + (mk i).length)).toArray e (0, 0) hcur
      have hread : ∀ j, (cur.toList.take (n * i0.size) ++ mk i ++ cur.toList.drop (n * i0.size + (mk i).length)).toArray[j]? = if n * i0.size ≤ j ∧ j < n * i0.size + i0.size then (mk i)[j - n * i0.size]? else cur[j]? := by
        intro j
        have hlt : (cur.toList.take (n * i0.size)).length = n * i0.size := by rw [List.length_take, Array.length_toList]; omega
        rw [List.getElem?_toArray, List.append_assoc]
        by_cases hj1 : j < n * i0.size
        · rw [if_neg (by omega), List.getElem?_append_left (by omega), List.getElem?_take, if_pos hj1, Array.getElem?_toList]
        · rw [List.getElem?_append_right (by omega), hlt]
          by_cases hj2 : j < n * i0.size + i0.size
          · rw [if_pos ⟨by omega, hj2⟩, List.getElem?_append_left (by omega)]
          · rw [if_neg (by omega), List.getElem?_append_right (by omega), List.getElem?_drop, Array.getElem?_toList]
            congr 1; omega
      have hmod : ∀ j, n * i0.size ≤ j ∧ j < n * i0.size + i0.size → j % i0.size = j - n * i0.size := by
        intro j hj
        have h2 : j - n * i0.size < i0.size := by omega
        conv => lhs; rw [show j = (j - n * i0.size) + i0.size * n by rw [Nat.mul_comm i0.size n]; omega]
        rw [Nat.add_mul_mod_self_left, Nat.mod_eq_of_lt h2]
      have hall : ∀ j u m, Ent w e i0.size mk col j u m → Ent (w.setRow g0 (cur.toList.take (n * i0.size) ++ mk i ++ cur.toList.drop (n * i0.size + (mk i).length)).toArray) e i0.size mk col j u m := by
        rintro j u m (h | ⟨g, n2, c2, cur2, h2, h3, h4, h5, h6⟩)
        · exact .inl h
        · by_cases hgg : g = g0
          · subst hgg
            rw [hcur] at h4
            injection h4 with h4
            injection h4 with h4 _ _
            subst h4
            refine .inr ⟨g, n2, c2, _, h2, h3, hset, ⟨h5.1, h5.2.1, ?_⟩, fun q hq => ?_⟩
            · have := h5.2.2
              simp only [List.size_toArray, List.length_append, List.length_take, List.length_drop, Array.length_toList]; omega
            · rw [hread]
              split
              · rename_i hq2
                rw [← hmod q hq2, ← hcol, h3]
              · exact h6 q hq
          · exact .inr ⟨g, n2, c2, cur2, h2, h3, by rw [setRow_other w g0 g _ hgg]; exact h4, h5, h6⟩
      refine ⟨_, _, col, hr, ho, ?_, hall, ?_, hbel⟩
      · rcases hent with ⟨h, _⟩ | ⟨g2, n2, c2, cur2, hv2, hc2, hh2, hs2, hall2⟩
        · cases h
        · injection hv2 with e2 _ _
          have e2 : g0 = g2 := by simpa using e2
          subst e2
          rw [hcur] at hh2
          injection hh2 with hh2
          injection hh2 with hh2 _ _
          subst hh2
          refine .inr ⟨g0, n + 1, cap, _, rfl, hcol, hset, ⟨hroom, hcm, ?_⟩, fun q hq => ?_⟩
          · simp only [List.size_toArray, List.length_append, List.length_take, List.length_drop, Array.length_toList]
            omega
          · rw [hread]
            split
            · rename_i hq2
              rw [hmod q hq2]
            · rename_i hq2
              rw [Nat.add_mul, Nat.one_mul] at hq
              exact hall2 q (by omega)
      · intro g cs t2 hne h
        by_cases hgg : g = g0
        · subst hgg
          rw [hcur] at h
          injection h with h
          injection h with _ h _
          exact absurd h.symm hne
        · rw [setRow_other w g0 g _ hgg]; exact h
    · have holds : ∀ j u, xs[j]? = some u → w.cell? ((⟨g0, 0, none⟩ : Addr).add j) = some u := World.ownsRow.cells hown (g := g0) rfl
      have hr2 := run_append_grow (P := P) w t ty e i0 z ht hi hz ⟨g0, 0, none⟩ n cap xs hown.1 holds ad 1 c (mk i) (by omega) hnews (by omega) (by unfold maxLen at h63; omega) (growslice_fits (by omega) hbytes)
      rw [hr] at hr2
      injection hr2 with e1 e2
      have hb2 : Below w.heap.size w w' := by
        rw [e2]
        exact (Below.refl _ w.drew).alloc (Nat.le_refl _) _ |> fun h => ⟨h.os, h.tape, h.output, h.size, h.block⟩
      obtain ⟨col', h2, h3, h4⟩ := fresh (fun g hgv => by rw [e1] at hgv; simp [Value.ownBlock] at hgv; omega) hb2
      exact ⟨v', w', col', hr, ho, h2, h3, h4, hbel⟩
/-- At the list of a plain region's operations. -/
theorem wpList_append_mark {P : Program} (w : World) {ops : Array Oper} {rest : List Oper} {o : Oper} {a : Act} {Q : Exit → Act → World → Prop} (hgd : o.guard = none) (s x : Operand) (t : TypeId)
    (ho : o.op = .call { callee := .builtin .append, args := #[s, x], argTypes := #[t, t] })
    (base : Nat) (e : TypeId) (i0 : TypeInfo) (z : Value) (size bytes : Nat) (ht : P.underlying t = some (.slice e)) (hi : P.info? e = some i0) (hz : i0.zero = some z)
    (hsize : i0.size = size) (hby : i0.bytes = bytes) (hzs : z.cells.size = size) (hsz : 0 < size)
    (v : Value) (n : Nat) (xs : List Value) (hs : a.eval s = v) (hown : w.ownsRow base e size v n xs)
    (ad : Addr) (c : Nat) (mk : Nat → List Value) (col : Nat → Nat) (i : Nat) (hx : a.eval x = .slice (some ad) 1 c) (hl : (mk i).length = size) (hnews : ∀ j u, (mk i)[j]? = some u → w.cell? (ad.add j) = some u) (h1 : ∀ u ∈ mk i, u.oneCell' = true)
    (h63 : n + 1 ≤ maxLen) (hbytes : (n + 1) * bytes ≤ 140737488355328) (hbase : base ≤ w.heap.size) (hent : Ent w e size mk col i v n)
    (h : ∀ x' c' w' col', w'.ownsRow base e size (.slice x' (n + 1) c') (n + 1) (xs ++ mk i) → Ent w' e size mk col' i (.slice x' (n + 1) c') (n + 1) → (∀ j u m, Ent w e size mk col j u m → Ent w' e size mk col' j u m) →
      (∀ (g : Nat) cs t2, t2 ≠ e → w.heap[g]? = some (Obj.cells cs t2 (0, 0)) → w'.heap[g]? = some (Obj.cells cs t2 (0, 0))) → Below base w w' → wpList P ops Q rest (a.put o.dst (.slice x' (n + 1) c')) w') : wpList P ops Q (o :: rest) a w :=
  wpList_plain hgd fun _ hK => by
    obtain ⟨v', w', col', hr, h2, h3, h4, h5, h6⟩ := run_append_mark P w base t o.type e i0 z size bytes ht hi hz hsize hby hzs hsz v n xs hown ad c mk col i hl hnews h1 h63 hbytes hbase hent
    unfold Oper.wp execOp
    simp only [ho, resolve, invoke, builtin, Sem.run_bind, Sem.run_pure, Result.andThen_ok, List.map_toArray, List.map_cons, List.map_nil, hs, hx, hr]
    obtain ⟨x', c', rfl⟩ : ∃ x' c', v' = .slice x' (n + 1) c' := by
      rcases h2.2 with ⟨_, h0⟩ | ⟨g, cap, cur, hv, _⟩
      · omega
      · exact ⟨_, _, hv⟩
    exact hK _ _ (h x' c' w' col' h2 h3 h4 h5 h6)
end Go.Proofs.YticcdighfojjjaaGreatDoor
