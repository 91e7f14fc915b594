/-
  Objects of the call's own in memory: a frame that lets some blocks turn ('Upd'); a Writer of package codec, a Writer of the document's own, a Reader.
-/
import Derived.Test.YtcfnkphdmkepaaaDoorCodecRow
namespace Go.Proofs.YtcfnkphdmkepaaaDoor
open Go.ChangeShapes Go.WideShapes Go.ChangeAt Go.RowKit

/-- All that was there is as it was, but for the blocks F. -/
structure Upd (F : List Nat) (w w' : World) : Prop where
  os : w'.os = w.os
  tape : w'.tape = w.tape
  output : w'.output = w.output
  size : w.heap.size ≤ w'.heap.size
  block : ∀ k, k < w.heap.size → k ∉ F → w'.heap[k]? = w.heap[k]?
theorem Upd.refl (F : List Nat) (w : World) : Upd F w w := ⟨rfl, rfl, rfl, Nat.le_refl _, fun _ _ _ => rfl⟩
theorem Upd.of_below {F : List Nat} {w w' : World} (h : Below w.heap.size w w') : Upd F w w' := ⟨h.os, h.tape, h.output, h.size, fun k hk _ => h.block k hk⟩
theorem Upd.trans {F G : List Nat} {a b c : World} (h : Upd F a b) (k : Upd G b c) (hG : ∀ x ∈ G, x ∈ F ∨ a.heap.size ≤ x) : Upd F a c :=
  ⟨k.os.trans h.os, k.tape.trans h.tape, k.output.trans h.output, Nat.le_trans h.size k.size, fun i hi hn => by
    rw [k.block i (Nat.lt_of_lt_of_le hi h.size) (fun hx => by rcases hG i hx with h1 | h1
                                                               · exact hn h1
                                                               · omega)]
    exact h.block i hi hn⟩
theorem Upd.below {F : List Nat} {B : Nat} {a b : World} (h : Upd F a b) (hF : ∀ x ∈ F, B ≤ x) (hB : B ≤ a.heap.size) : Below B a b :=
  ⟨h.os, h.tape, h.output, h.size, fun k hk => h.block k (Nat.lt_of_lt_of_le hk hB) (fun hx => by have := hF k hx; omega)⟩
theorem Upd.then_below {F : List Nat} {a b c : World} (h : Upd F a b) (k : Below b.heap.size b c) : Upd F a c := h.trans (G := []) (Upd.of_below k) (fun _ hx => by cases hx)
theorem Upd.setCell {F : List Nat} {a w : World} (h : Upd F a w) {p : Addr} (hp : p.block ∈ F ∨ a.heap.size ≤ p.block) (u : Value) : Upd F a (w.setCell p u) :=
  h.trans (G := [p.block]) ⟨rfl, rfl, rfl, by simp [World.setCell], fun k _ hk => Below.heap_setCell _ _ _ _ (by simpa using hk)⟩ (fun x hx => by simp at hx; subst hx; exact hp)
theorem Upd.grown {F : List Nat} {a w w' : World} {row : Option Nat} (h : Upd F a w) (hg : w.grownBy w' row) (hr : ∀ k, row = some k → k ∈ F ∨ a.heap.size ≤ k) : Upd F a w' :=
  h.trans (G := row.toList) ⟨hg.os, hg.tape, hg.output, hg.size, fun k hk hn => hg.block k hk (fun e => hn (by rw [← e]; simp))⟩ (fun x hx => hr x (by simpa using hx))
theorem Upd.drewN {F : List Nat} {a w : World} (h : Upd F a w) (n : Nat) : Upd F a (w.drewN n) := ⟨h.os, h.tape, h.output, h.size, h.block⟩
theorem Upd.drew {F : List Nat} {a w : World} (h : Upd F a w) : Upd F a w.drew := ⟨h.os, h.tape, h.output, h.size, h.block⟩
theorem Upd.of_drawn {F : List Nat} {w w' : World} {n : Nat} (h : Upd F (w.drewN n) w') : Upd F w w' := ⟨h.os, h.tape, h.output, h.size, h.block⟩
theorem Upd.mono {F G : List Nat} {a b : World} (h : Upd F a b) (hs : ∀ x ∈ F, x ∈ G) : Upd G a b := ⟨h.os, h.tape, h.output, h.size, fun k hk hn => h.block k hk (fun hx => hn (hs k hx))⟩

theorem Hand.kept {w w' : World} (h : Hand w) (he : w'.heap[(0 : Nat)]? = w.heap[(0 : Nat)]?) : Hand w' := by
  unfold Hand at h ⊢
  rw [World.cell?_of_block (w := w) (a := ⟨0, 0, none⟩) he]; exact h
theorem Hand.pos {w : World} (h : Hand w) : 0 < w.heap.size := by
  rcases Nat.eq_zero_or_pos w.heap.size with h0 | h1
  · unfold Hand at h; simp [World.cell?, h0] at h
  · exact h1
theorem Hand.below {w w' : World} {B : Nat} (h : Hand w) (hb : Below B w w') (hB : 0 < B) : Hand w' := h.kept (hb.block _ hB)
theorem Hand.upd {w w' : World} {F : List Nat} (h : Hand w) (hb : Upd F w w') (hF : ∀ x ∈ F, 0 < x) : Hand w' := h.kept (hb.block _ h.pos (fun hx => by have := hF _ hx; omega))
theorem Hand.drewN {w : World} (h : Hand w) (n : Nat) : Hand (w.drewN n) := h

/-- A known block, a cell of it turned. -/
theorem heap_set_at {w : World} {b k : Nat} {cs : Array Value} {t : TypeId} {f : Nat × Nat} (h : w.heap[b]? = some (.cells cs t f)) (u : Value) : (w.setCell ⟨b, k, none⟩ u).heap[b]? = some (.cells (cs.setIfInBounds k u) t f) := by
  simp [World.setCell, Array.getElem?_modify, h]
theorem cell_at {w : World} {b k : Nat} {cs : Array Value} {t : TypeId} {f : Nat × Nat} {v : Value} (h : w.heap[b]? = some (.cells cs t f)) (hv : cs[k]? = some v) : w.cell? ⟨b, k, none⟩ = some v := by
  simp [World.cell?, h, hv]
theorem free_at {w : World} {b k : Nat} {cs : Array Value} {t : TypeId} (h : w.heap[b]? = some (.cells cs t (0, 0))) : w.frozen? ⟨b, k, none⟩ = false := by
  simp [World.frozen?, h]
theorem lt_of_heap {w : World} {b : Nat} {o : Obj} (h : w.heap[b]? = some o) : b < w.heap.size := (Array.getElem?_eq_some_iff.1 h).1

/-- The error in a field: nil, or one of package codec. -/
def errW (e : Int) : Value := if e = 0 then .nilIface else errV e
theorem errW_nil : errW 0 = .nilIface := rfl
theorem errW_some {e : Int} (h : e ≠ 0) : errW e = errV e := if_neg h

/-- A row of bytes that somebody owns, and in which block it lies. -/
def Held (w : World) (v : Value) (l : List UInt8) : Prop := w.ownsRow 0 5 1 v l.length (l.map b8)
theorem Own8.held {w0 w : World} {v : Value} {l : List UInt8} (h : Own8 w0 w v l) : Held w v l := by
  obtain ⟨h1, h2⟩ := h.own
  refine ⟨h1, ?_⟩
  rcases h2 with h3 | ⟨g, cap, cur, h3, _, h4⟩
  · exact .inl h3
  · exact .inr ⟨g, cap, cur, h3, Nat.zero_le _, h4⟩
theorem Held.kept {w w' : World} {v : Value} {l : List UInt8} (h : Held w v l) (hk : ∀ g, v.ownBlock = some g → w'.heap[g]? = w.heap[g]?) : Held w' v l := by
  obtain ⟨h1, h2⟩ := h
  refine ⟨h1, ?_⟩
  rcases h2 with h3 | ⟨g, cap, cur, rfl, h4, h5, h6⟩
  · exact .inl h3
  · exact .inr ⟨g, cap, cur, rfl, h4, by rw [hk g rfl]; exact h5, h6⟩
theorem Held.lt {w : World} {v : Value} {l : List UInt8} (h : Held w v l) {g : Nat} (hg : v.ownBlock = some g) : g < w.heap.size := (World.ownsRow.lt h g hg).2
theorem Held.string {w : World} {v : Value} {l : List UInt8} (h : Held w v l) : (convert 57 9 v).run Tryd.prog w = .ok (str l) w := by
  rcases h.2 with ⟨rfl, hn⟩ | ⟨g, cap, cur, rfl, _⟩
  · have : l = [] := List.eq_nil_of_length_eq_zero hn
    subst this
    rw [run_convert_bytes_nil w 57 5 Tryd.underlying57 Tryd.underlying5 0 0 9 Tryd.underlying9]; rfl
  · exact ofBytes 9 57 5 w g cap l.length l rfl Tryd.underlying9 Tryd.underlying57 Tryd.underlying5 fun j hj => by
      have hc := World.ownsRow.cellAt h j (by simpa using hj)
      exact ⟨by rw [hc]; simp [b8, hj], World.ownsRow.frozenAt h j⟩
theorem Held.slice {w : World} {v : Value} {l : List UInt8} (h : Held w v l) (hl : 0 < l.length) : ∃ g cap, v = .slice (some ⟨g, 0, none⟩) l.length cap ∧ ∀ j u, (l.map b8)[j]? = some u → w.cell? ((⟨g, 0, none⟩ : Addr).add j) = some u := by
  rcases h.2 with ⟨rfl, hn⟩ | ⟨g, cap, cur, rfl, _⟩
  · omega
  · exact ⟨g, cap, rfl, World.ownsRow.cells h (g := g) rfl⟩

theorem Held.shape {w : World} {v : Value} {l : List UInt8} (h : Held w v l) : ∃ a c, v = .slice a l.length c := by
  rcases h.2 with ⟨rfl, hn⟩ | ⟨g, cap, cur, rfl, _⟩
  · exact ⟨none, 0, by rw [hn]⟩
  · exact ⟨_, _, rfl⟩

theorem Held.shape' {w : World} {v : Value} {l : List UInt8} (h : Held w v l) : ∃ a n c, v = .slice a n c := by
  obtain ⟨a, c, h1⟩ := h.shape
  exact ⟨a, _, c, h1⟩

/-- What an append of bytes leaves: the row lies where it lay, or in a new block. -/
theorem run_append_loc {w : World} {v : Value} {l : List UInt8} (hown : Held w v l) (ty : TypeId) (a : Addr) (c : Nat) (news : List UInt8) (hnews : ∀ j u, (news.map b8)[j]? = some u → w.cell? (a.add j) = some u) (hb : l.length + news.length ≤ 70368744177664) :
    ∃ v' w', (Builtin.append_ #[57, 57] ty #[v, .slice (some a) news.length c]).run Tryd.prog w = .ok v' w' ∧ Held w' v' (l ++ news) ∧ w.grownBy w' v.ownBlock ∧ ∀ g, v'.ownBlock = some g → v.ownBlock = some g ∨ w.heap.size ≤ g := by
  obtain ⟨i0, hi, hz0, hz1, hz2⟩ := info_parts info8
  have h1 : ∀ u ∈ news.map b8, u.oneCell' = true := by
    intro u hu
    obtain ⟨c, _, rfl⟩ := List.mem_map.1 hu
    rfl
  obtain ⟨v', w', hr, ho, hg, _⟩ := run_append_own (P := Tryd.prog) w 0 57 ty 5 i0 (.int .u8 0) 1 1 Tryd.underlying57 hi hz0 hz1 hz2 rfl (by decide) v l.length (l.map b8) hown a news.length c (news.map b8) (by simp) hnews h1 (by unfold maxLen; omega) (by omega) (Nat.zero_le _)
  refine ⟨v', w', hr, ⟨by simp, by simpa using ho.2⟩, hg, ?_⟩
  intro g hg'
  have hown2 := hown
  rcases hown2.2 with ⟨rfl, hn⟩ | ⟨g0, cap, cur, rfl, _, hcur, hnc, hcm, hcs, htake⟩
  · obtain ⟨v2, w2, hr2, ho2, _, _⟩ := run_append_own (P := Tryd.prog) w w.heap.size 57 ty 5 i0 (.int .u8 0) 1 1 Tryd.underlying57 hi hz0 hz1 hz2 rfl (by decide) (.slice none 0 0) l.length (l.map b8) ⟨hown.1, .inl ⟨rfl, hn⟩⟩ a news.length c (news.map b8) (by simp) hnews h1 (by unfold maxLen; omega) (by omega) (Nat.le_refl _)
    rw [hr] at hr2
    injection hr2 with e1 e2
    subst e1 e2
    exact Or.inr (ho2.lt g hg').1
  · by_cases hroom : l.length + news.length ≤ cap
    · have hr2 := run_append_room (P := Tryd.prog) w 57 ty 5 i0 Tryd.underlying57 hi g0 l.length cap cur hcur a news.length c (news.map b8) (by rw [hz1]; simp) hnews h1 hroom (by rw [hz1, hcs]; simp; omega)
      rw [hr] at hr2
      injection hr2 with e1 e2
      subst e1
      exact Or.inl hg'
    · have holds : ∀ j u, (l.map b8)[j]? = some u → w.cell? ((⟨g0, 0, none⟩ : Addr).add j) = some u := World.ownsRow.cells hown (g := g0) rfl
      have hr2 := run_append_grow (P := Tryd.prog) w 57 ty 5 i0 (.int .u8 0) Tryd.underlying57 hi hz0 ⟨g0, 0, none⟩ l.length cap (l.map b8) (by rw [hz1]; simp) holds a news.length c (news.map b8) (by rw [hz1]; simp) hnews (by omega) (by omega) (growslice_fits (by omega) (by rw [hz2]; omega))
      rw [hr] at hr2
      injection hr2 with e1 e2
      subst e1
      simp [Value.ownBlock] at hg'
      exact Or.inr (by omega)
theorem run_appendS_loc {w : World} {v : Value} {l : List UInt8} (hown : Held w v l) (ty : TypeId) (s : ByteArray) (hb : l.length + s.size ≤ 70368744177664) :
    ∃ v' w', (Builtin.append_ #[57, 9] ty #[v, .string s]).run Tryd.prog w = .ok v' w' ∧ Held w' v' (l ++ s.data.toList) ∧ w.grownBy w' v.ownBlock ∧ ∀ g, v'.ownBlock = some g → v.ownBlock = some g ∨ w.heap.size ≤ g := by
  obtain ⟨i0, hi, hz0, hz1, hz2⟩ := info_parts info8
  have e : l.map b8 ++ Lib.strCells s = (l ++ s.data.toList).map b8 := by rw [List.map_append]; rfl
  have e2 : (l ++ s.data.toList).length = l.length + s.size := by rw [List.length_append]; simp
  obtain ⟨v', w', hr, ho, hg, _⟩ := Lib.run_append_own_string (P := Tryd.prog) w 0 57 9 ty 5 i0 Tryd.underlying57 Tryd.underlying9 hi hz0 hz1 hz2 v l.length (l.map b8) hown s (by unfold maxLen; omega) (by omega) (Nat.zero_le _)
  refine ⟨v', w', hr, by unfold Held; rw [e2, ← e]; exact ho, hg, ?_⟩
  intro g hg'
  have hown2 := hown
  rcases hown2.2 with ⟨rfl, hn⟩ | ⟨g0, cap, cur, rfl, _, hcur, hnc, hcm, hcs, htake⟩
  · obtain ⟨v2, w2, hr2, ho2, _, _⟩ := Lib.run_append_own_string (P := Tryd.prog) w w.heap.size 57 9 ty 5 i0 Tryd.underlying57 Tryd.underlying9 hi hz0 hz1 hz2 (.slice none 0 0) l.length (l.map b8) ⟨hown.1, .inl ⟨rfl, hn⟩⟩ s (by unfold maxLen; omega) (by omega) (Nat.le_refl _)
    rw [hr] at hr2
    injection hr2 with e1 e2
    subst e1 e2
    exact Or.inr (ho2.lt g hg').1
  · by_cases hroom : l.length + s.size ≤ cap
    · have hr2 := Lib.run_append_room_string (P := Tryd.prog) w 57 9 ty 5 i0 Tryd.underlying57 Tryd.underlying9 hi hz1 g0 l.length cap cur hcur s hroom (by rw [hcs]; omega)
      rw [hr] at hr2
      injection hr2 with e1 e2
      subst e1
      exact Or.inl hg'
    · have holds : ∀ j u, (l.map b8)[j]? = some u → w.cell? ((⟨g0, 0, none⟩ : Addr).add j) = some u := World.ownsRow.cells hown (g := g0) rfl
      have hr2 := Lib.run_append_grow_string (P := Tryd.prog) w 57 9 ty 5 i0 (.int .u8 0) Tryd.underlying57 Tryd.underlying9 hi hz0 ⟨g0, 0, none⟩ l.length cap (l.map b8) (by rw [hz1]; simp) holds s (by omega) (by omega) (by rw [hz2]; exact growslice_fits (by omega) (by omega))
      rw [hr] at hr2
      injection hr2 with e1 e2
      subst e1
      simp [Value.ownBlock] at hg'
      exact Or.inr (by omega)

/-- The same, as the walk meets it. -/
theorem appendH {ops : Array Oper} {rest : List Oper} {o : Oper} {a : Act} {Q : Exit → Act → World → Prop} (hgd : o.guard = none) (s x : Operand)
    (ho : o.op = .call { callee := .builtin .append, args := #[s, x], argTypes := #[57, 57] })
    {w : World} {v : Value} {l : List UInt8} (hown : Held w v l) (hs : a.eval s = v) {ad : Addr} {c n : Nat} (news : List UInt8) (hx : a.eval x = .slice (some ad) n c) (hn : n = news.length) (hnews : ∀ j u, (news.map b8)[j]? = some u → w.cell? (ad.add j) = some u) (hb : l.length + news.length ≤ 70368744177664)
    (h : ∀ v' w', Held w' v' (l ++ news) → w.grownBy w' v.ownBlock → (∀ g, v'.ownBlock = some g → v.ownBlock = some g ∨ w.heap.size ≤ g) → wpList Tryd.prog ops Q rest (a.put o.dst v') w') : wpList Tryd.prog ops Q (o :: rest) a w := by
  subst hn
  refine wpList_plain hgd fun K hK => ?_
  obtain ⟨v', w', hr, h2, h3, h4⟩ := run_append_loc hown o.type ad c news hnews hb
  unfold Oper.wp execOp
  simp only [ho, resolve, invoke, builtin, Sem.run_bind, Sem.run_pure, Result.andThen_ok, List.map_toArray, List.map_cons, List.map_nil, hs, hx, hr]
  exact hK _ _ (h v' w' h2 h3 h4)
theorem appendHS {ops : Array Oper} {rest : List Oper} {o : Oper} {a : Act} {Q : Exit → Act → World → Prop} (hgd : o.guard = none) (s x : Operand)
    (ho : o.op = .call { callee := .builtin .append, args := #[s, x], argTypes := #[57, 9] })
    {w : World} {v : Value} {l : List UInt8} (hown : Held w v l) (hs : a.eval s = v) (t : ByteArray) (hx : a.eval x = .string t) (hb : l.length + t.size ≤ 70368744177664)
    (h : ∀ v' w', Held w' v' (l ++ t.data.toList) → w.grownBy w' v.ownBlock → (∀ g, v'.ownBlock = some g → v.ownBlock = some g ∨ w.heap.size ≤ g) → wpList Tryd.prog ops Q rest (a.put o.dst v') w') : wpList Tryd.prog ops Q (o :: rest) a w := by
  refine wpList_plain hgd fun K hK => ?_
  obtain ⟨v', w', hr, h2, h3, h4⟩ := run_appendS_loc hown o.type t hb
  unfold Oper.wp execOp
  simp only [ho, resolve, invoke, builtin, Sem.run_bind, Sem.run_pure, Result.andThen_ok, List.map_toArray, List.map_cons, List.map_nil, hs, hx, hr]
  exact hK _ _ (h v' w' h2 h3 h4)
theorem Held.drewN {w : World} {v : Value} {l : List UInt8} (h : Held w v l) (n : Nat) : Held (w.drewN n) v l := h.kept (fun _ _ => rfl)
theorem grown_at {w w' : World} {row : Option Nat} {b : Nat} {o : Obj} (h : w.heap[b]? = some o) (hg : w.grownBy w' row) (hne : row ≠ some b) : w'.heap[b]? = some o :=
  (hg.block b (lt_of_heap h) (fun e => hne e.symm)).trans h
end Go.Proofs.YtcfnkphdmkepaaaDoor
