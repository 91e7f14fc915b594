/-
  GivKit, TxKit.
-/
import Derived.Test.YtopghlnoklajkaaGreatDoorQKeyFinds
import Derived.Deep.AppendLies
import Derived.Deep.RegionLaw
import Derived.Laws.OwnMore
import Derived.Test.YtopghlnoklajkaaGreatDoorQRowOps
namespace Go.Proofs.YtopghlnoklajkaaGreatDoor
open Go.ChangeShapes Go.WideShapes Go.ChangeAt Go.RowKit

/-- A setting that is given. -/
structure GivV where
  name : ByteArray
  text : ByteArray
  at_ : Int
instance : Inhabited GivV := ⟨⟨⟨#[]⟩, ⟨#[]⟩, 0⟩⟩
/-- A list of settings in memory. -/
def Givs (w : World) (x : Option Addr) (gs : List GivV) : Prop :=
  ∀ k (h : k < gs.length), ∃ b off, x = some ⟨b, off, none⟩ ∧ b < w.heap.size ∧ w.cell? ⟨b, off + k * 3, none⟩ = some (.string gs[k].name) ∧ w.cell? ⟨b, off + k * 3 + 1, none⟩ = some (.string gs[k].text) ∧ w.cell? ⟨b, off + k * 3 + 2, none⟩ = some (.int .i64 gs[k].at_)
theorem Givs.below {w w' : World} {x : Option Addr} {gs : List GivV} (h : Givs w x gs) (hb : Below w.heap.size w w') : Givs w' x gs := fun k hk => by
  obtain ⟨b, off, e, hl, c0, c1, c2⟩ := h k hk
  exact ⟨b, off, e, Nat.lt_of_lt_of_le hl hb.size, by rw [hb.cell (p := ⟨b, off + k * 3, none⟩) hl]; exact c0, by rw [hb.cell (p := ⟨b, off + k * 3 + 1, none⟩) hl]; exact c1, by rw [hb.cell (p := ⟨b, off + k * 3 + 2, none⟩) hl]; exact c2⟩
theorem infoTx : (Tryz.prog.info? 9).map (fun i => (i.zero, i.size, i.bytes)) = some (some (.string ByteArray.empty), 1, 16) := by kernel_rfl
/-- A list of texts of a call's own. -/
structure OwnX (w0 w : World) (v : Value) (ts : List ByteArray) : Prop where
  own : w.ownsRow w0.heap.size 9 1 v ts.length (ts.map Value.string)
  below : Below w0.heap.size w0 w
theorem OwnX.nil_ (w : World) : OwnX w w (.slice none 0 0) [] := ⟨World.ownsRow_nil _ _ _ _, Below.refl _ _⟩
theorem OwnX.after {w0 w w' : World} {v : Value} {ts : List ByteArray} (h : OwnX w0 w v ts) (hb : Below w.heap.size w w') : OwnX w0 w' v ts :=
  ⟨h.own.kept (row := none) ⟨hb.os, hb.tape, hb.output, hb.size, fun k hk _ => hb.block k hk⟩ (by cases hv : v.ownBlock <;> simp), h.below.trans (hb.mono h.below.size)⟩
theorem own_form {w : World} {B : Nat} {e : TypeId} {size n : Nat} {v : Value} {xs : List Value} (h : w.ownsRow B e size v n xs) : ∃ x c, v = .slice x n c := by
  rcases h.2 with ⟨h1, h2⟩ | ⟨g, cap, cur, h1, _⟩
  · exact ⟨none, 0, by rw [h1, h2]⟩
  · exact ⟨_, _, h1⟩
/-- A text goes to a list of texts. -/
theorem appendX {ops : Array Oper} {rest : List Oper} {o : Oper} {a : Act} {Q : Exit → Act → World → Prop} (hgd : o.guard = none) (s x : Operand)
    (ho : o.op = .call { callee := .builtin .append, args := #[s, x], argTypes := #[24, 24] }) {w0 w : World} {v : Value} {t : ByteArray} {ts : List ByteArray} (hown : OwnX w0 w v ts) (hn : ts.length ≤ 10000000000) (hs : a.eval s = v)
    {c g : Nat} (hx : a.eval x = .slice (some ⟨g, 0, none⟩) 1 c) (hg : g = w.heap.size)
    (h : ∀ y cap w', OwnX w0 w' (.slice (some ⟨y, 0, none⟩) (ts.length + 1) cap) (ts ++ [t]) → wpList Tryz.prog ops Q rest (a.put o.dst (.slice (some ⟨y, 0, none⟩) (ts.length + 1) cap)) w') :
    wpList Tryz.prog ops Q (o :: rest) a (w.alloc (Obj.cells #[.string t] 9)) := by
  subst hg
  obtain ⟨i0, hi, hz0, hz1, hz2⟩ := info_parts infoTx
  have hz := hown.below.size
  refine wpList_append_lies _ hgd s x _ ho w0.heap.size 9 i0 _ 1 16 Tryz.underlying24 hi hz0 hz1 hz2 rfl (by decide) v ts.length (ts.map Value.string) hs (hown.own.alloc _) ⟨w.heap.size, 0, none⟩ 1 c [.string t] hx rfl (World.news_of_block (heap_alloc_new w _)) ?_ (by decide) (by unfold maxLen; omega) (by omega) (by have := (below_one w (Obj.cells #[.string t] 9)).size; omega) _ rfl ?_
  · intro u' hu'
    rw [List.mem_singleton.1 hu']; rfl
  · intro y cap w1 h1 h2 _ _
    exact h y cap w1 ⟨by simpa using h1, (hown.below.alloc hz _).grown h2 (by simp; omega) (fun k hk => (hown.own.lt k hk).1)⟩
theorem own_ne {w : World} {B q size n : Nat} {e t : TypeId} {v : Value} {xs : List Value} {a : Array Value} {fr : Nat × Nat} (h : w.ownsRow B e size v n xs) (hq : w.heap[q]? = some (Obj.cells a t fr)) (hne : t ≠ e) : v.ownBlock ≠ some q := by
  intro hv
  rcases h.2 with ⟨h1, _⟩ | ⟨g, cap, cur, h1, _, hg, _⟩
  · rw [h1] at hv; cases hv
  · rw [h1] at hv
    have : g = q := by injection hv
    subst this
    rw [hq] at hg
    injection hg with hg
    injection hg with _ h2 _
    exact hne h2
theorem heap_ltF {w : World} {q : Nat} {o : Obj} (h : w.heap[q]? = some o) : q < w.heap.size := (Array.getElem?_eq_some_iff.1 h).1
/-- A list of texts in memory. -/
def TxAt (w : World) (x : Option Addr) (ts : List ByteArray) : Prop := ∀ k (h : k < ts.length), ∃ b off, x = some ⟨b, off, none⟩ ∧ b < w.heap.size ∧ w.cell? ⟨b, off + k, none⟩ = some (.string ts[k])
theorem TxAt.below {w w' : World} {x : Option Addr} {ts : List ByteArray} (h : TxAt w x ts) (hb : Below w.heap.size w w') : TxAt w' x ts := fun k hk => by
  obtain ⟨b, off, e, hl, hc⟩ := h k hk
  exact ⟨b, off, e, Nat.lt_of_lt_of_le hl hb.size, by rw [hb.cell (p := ⟨b, off + k, none⟩) hl]; exact hc⟩
theorem OwnX.texts {w0 w : World} {v : Value} {ts : List ByteArray} (h : OwnX w0 w v ts) : ∃ x c, v = .slice x ts.length c ∧ TxAt w x ts := by
  rcases h.own.2 with ⟨h1, h2⟩ | ⟨g, cap, cur, h1, _, hg, _⟩
  · refine ⟨none, 0, by rw [h1, h2], fun k hk => ?_⟩
    omega
  · refine ⟨_, _, h1, fun k hk => ⟨g, 0, rfl, (Array.getElem?_eq_some_iff.1 hg).1, ?_⟩⟩
    have hv := h.own
    rw [h1] at hv
    rw [Nat.zero_add, hv.cellAt k (by omega), List.getElem?_map, List.getElem?_eq_getElem hk]; rfl
/-- Definitions that came in, anywhere in a block. -/
def KeysAt (w : World) (x : Option Addr) (xs : List KeyV) : Prop :=
  ∀ i (h : i < xs.length), ∃ b off, x = some ⟨b, off, none⟩ ∧ b < w.heap.size ∧ w.cell? ⟨b, off + i * 6, none⟩ = some (.string xs[i].name) ∧ w.cell? ⟨b, off + i * 6 + 1, none⟩ = some (.int .i64 xs[i].kind) ∧ w.cell? ⟨b, off + i * 6 + 2, none⟩ = some (.string xs[i].dflt) ∧
    w.cell? ⟨b, off + i * 6 + 3, none⟩ = some (.int .i64 xs[i].least) ∧ w.cell? ⟨b, off + i * 6 + 4, none⟩ = some (.int .i64 xs[i].most) ∧ w.cell? ⟨b, off + i * 6 + 5, none⟩ = some (.string xs[i].letter)
theorem KeysAt.below {w w' : World} {x : Option Addr} {xs : List KeyV} (h : KeysAt w x xs) (hb : Below w.heap.size w w') : KeysAt w' x xs := fun i hi => by
  obtain ⟨b, off, e, hl, c0, c1, c2, c3, c4, c5⟩ := h i hi
  exact ⟨b, off, e, Nat.lt_of_lt_of_le hl hb.size, by rw [hb.cell (p := ⟨b, _, none⟩) hl]; exact c0, by rw [hb.cell (p := ⟨b, _, none⟩) hl]; exact c1, by rw [hb.cell (p := ⟨b, _, none⟩) hl]; exact c2, by rw [hb.cell (p := ⟨b, _, none⟩) hl]; exact c3, by rw [hb.cell (p := ⟨b, _, none⟩) hl]; exact c4, by rw [hb.cell (p := ⟨b, _, none⟩) hl]; exact c5⟩
end Go.Proofs.YtopghlnoklajkaaGreatDoor

namespace Go.Proofs.YtopghlnoklajkaaGreatDoor
open Go.ChangeShapes Go.WideShapes Go.ChangeAt Go.RowKit

theorem cell_blkT {W W' : World} {R : Nat} (h : W'.heap[R]? = W.heap[R]?) (j : Nat) : W'.cell? ⟨R, j, none⟩ = W.cell? ⟨R, j, none⟩ := by unfold World.cell?; rw [h]
theorem OwnX.tx {w0 w : World} {x : Option Addr} {n c : Nat} {ts : List ByteArray} (h : OwnX w0 w (.slice x n c) ts) : TxAt w x ts := by
  obtain ⟨x', c', e, ht⟩ := h.texts
  injection e with e1 _ _
  rw [e1]; exact ht
theorem TxAt.other {w w' : World} {x : Option Addr} {ts : List ByteArray} {q : Option Nat} (h : TxAt w x ts) (hg : w.grownBy w' q) (hne : ∀ b off, x = some ⟨b, off, none⟩ → q ≠ some b) : TxAt w' x ts := fun k hk => by
  obtain ⟨b, off, e, hl, hc⟩ := h k hk
  exact ⟨b, off, e, Nat.lt_of_lt_of_le hl hg.size, (cell_blkT (hg.block b hl (fun e' => hne b off e e'.symm)) (off + k)).trans hc⟩
/-- Where a list of a call's own lies. -/
theorem OwnX.new {w0 w : World} {x : Option Addr} {n c : Nat} {ts : List ByteArray} (h : OwnX w0 w (.slice x n c) ts) : ∀ b off, x = some ⟨b, off, none⟩ → w0.heap.size ≤ b ∧ b < w.heap.size := fun b off e => by
  subst e
  exact h.own.lt b rfl
theorem OwnX.form {w0 w : World} {x : Option Addr} {n c : Nat} {ts : List ByteArray} (h : OwnX w0 w (.slice x n c) ts) (hn : 0 < n) : ∃ g, x = some ⟨g, 0, none⟩ ∧ ts.length = n := by
  rcases h.own.2 with ⟨h1, h2⟩ | ⟨g, cap, cur, h1, _⟩
  · injection h1 with _ h3 _
    omega
  · injection h1 with h3 h4 _
    exact ⟨g, h3, h4.symm⟩
/-- A text of a list of a call's own is written over. -/
theorem OwnX.put {w0 w : World} {g n c : Nat} {ts : List ByteArray} (h : OwnX w0 w (.slice (some ⟨g, 0, none⟩) n c) ts) (hn : ts.length = n) (j : Nat) (hj : j < n) (u : ByteArray) :
    (∃ a, w.cell? ⟨g, j, none⟩ = some a) ∧ w.frozen? ⟨g, j, none⟩ = false ∧ OwnX w0 (w.setCell ⟨g, j, none⟩ (.string u)) (.slice (some ⟨g, 0, none⟩) n c) (ts.set j u) ∧ w.grownBy (w.setCell ⟨g, j, none⟩ (.string u)) (some g) := by
  subst hn
  have ho := h.own
  have hc := ho.cellAt j (by omega)
  obtain ⟨h1, h2⟩ := ho.stored j (.string u)
  refine ⟨⟨_, hc.trans (List.getElem?_eq_getElem (by simpa using hj))⟩, ho.frozenAt j, ⟨?_, h.below.setCell (p := ⟨g, j, none⟩) (h.new g 0 rfl).1 _⟩, h2⟩
  rw [List.length_set, List.map_set]
  exact h1
theorem run_append_zero (w : World) (x : Option Addr) (n c : Nat) (hc : n ≤ c) (y : Option Addr) (d : Nat) (ty : TypeId) :
    (Builtin.append_ #[24, 24] ty #[.slice x n c, .slice y 0 d]).run Tryz.prog w = .ok (.slice x n c) w := by
  obtain ⟨i0, hi, hz0, hz1, hz2⟩ := info_parts infoTx
  have u3 := Tryz.underlying9
  cases x with
  | none =>
    cases y with
    | none => simp [Builtin.append_, run_underlying Tryz.underlying24, Builtin.lenOf, Builtin.firstCells, sizeOf, typeInfo, hi, hc]
    | some a =>
      have h0 := run_loadCells_list (P := Tryz.prog) w a [] (fun j v h => by simp at h)
      simp at h0
      simp [Builtin.append_, run_underlying Tryz.underlying24, Builtin.lenOf, Builtin.firstCells, sizeOf, typeInfo, hi, hc, h0]
  | some b =>
    cases y with
    | none => simp [Builtin.append_, run_underlying Tryz.underlying24, Builtin.lenOf, Builtin.firstCells, sizeOf, typeInfo, hi, hc, storeCells]
    | some a =>
      have h0 := run_loadCells_list (P := Tryz.prog) w a [] (fun j v h => by simp at h)
      simp at h0
      simp [Builtin.append_, run_underlying Tryz.underlying24, Builtin.lenOf, Builtin.firstCells, sizeOf, typeInfo, hi, hc, h0, storeCells]
/-- Texts go to a list of a call's own, all of a list. -/
theorem appendXs {ops : Array Oper} {rest : List Oper} {o : Oper} {a : Act} {Q : Exit → Act → World → Prop} (hgd : o.guard = none) (s x : Operand)
    (ho : o.op = .call { callee := .builtin .append, args := #[s, x], argTypes := #[24, 24] }) {w0 w : World} {x0 : Option Addr} {n0 c0 : Nat} {ts us : List ByteArray} (hown : OwnX w0 w (.slice x0 n0 c0) ts) (hn0 : ts.length = n0) {y : Option Addr} {m c : Nat} (htx : TxAt w y us) (hm : us.length = m) (hs : a.eval s = .slice x0 n0 c0) (hx : a.eval x = .slice y m c)
    (hb : n0 + m ≤ 10000000000)
    (h : ∀ z cap w', OwnX w0 w' (.slice z (n0 + m) cap) (ts ++ us) → wpList Tryz.prog ops Q rest (a.put o.dst (.slice z (n0 + m) cap)) w') : wpList Tryz.prog ops Q (o :: rest) a w := by
  subst hm hn0
  obtain ⟨i0, hi, hz0, hz1, hz2⟩ := info_parts infoTx
  have hz := hown.below.size
  by_cases h0 : us.length = 0
  · have hus : us = [] := List.eq_nil_of_length_eq_zero h0
    subst hus
    have hc : ts.length ≤ c0 := by
      rcases hown.own.2 with ⟨h1, h2⟩ | ⟨g, cap, cur, h1, _, _, hnc, _⟩
      · injection h1 with _ _ h3; omega
      · injection h1 with _ _ h3; omega
    have hh := h x0 c0 w (by simpa using hown)
    simp only [List.length_nil, Nat.add_zero] at hh hx
    exact wpList_append_eq hgd s x _ _ ho _ _ _ hs hx (run_append_zero w x0 ts.length c0 hc y c o.type) hh
  · obtain ⟨b, off, hy, _, _⟩ := htx 0 (by omega)
    subst hy
    refine wpList_append_lies _ hgd s x _ ho w0.heap.size 9 i0 _ 1 16 Tryz.underlying24 hi hz0 hz1 hz2 rfl (by decide) _ ts.length (ts.map Value.string) hs hown.own ⟨b, off, none⟩ us.length c (us.map Value.string) hx (by simp) (fun j u hj => ?_) ?_ (by omega) (by unfold maxLen; omega) (by omega) (by omega) _ rfl ?_
    · have hjl : j < us.length := by have := (List.getElem?_eq_some_iff.1 hj).1; simpa using this
      obtain ⟨b', off', e, _, hc⟩ := htx j hjl
      obtain ⟨rfl, rfl⟩ : b = b' ∧ off = off' := by simpa using e
      rw [add_at, hc]
      rw [List.getElem?_map, List.getElem?_eq_getElem hjl] at hj
      exact hj
    · intro u hu
      obtain ⟨t, _, rfl⟩ := List.mem_map.1 hu
      rfl
    · intro g cap w1 h1 h2 _ _
      refine h (some ⟨g, 0, none⟩) cap w1 ⟨?_, hown.below.grown h2 (by omega) (fun k hk => (hown.own.lt k hk).1)⟩
      rw [List.length_append, List.map_append]
      exact h1
theorem append0 {ops : Array Oper} {rest : List Oper} {o : Oper} {a : Act} {Q : Exit → Act → World → Prop} (hgd : o.guard = none) (s x : Operand)
    (ho : o.op = .call { callee := .builtin .append, args := #[s, x], argTypes := #[24, 24] }) {w : World} {us : List ByteArray} {y : Option Addr} {m c : Nat} (htx : TxAt w y us) (hm : us.length = m) (hs : a.eval s = .slice none 0 0) (hx : a.eval x = .slice y m c)
    (hb : m ≤ 10000000000)
    (h : ∀ z cap w', OwnX w w' (.slice z m cap) us → wpList Tryz.prog ops Q rest (a.put o.dst (.slice z m cap)) w') : wpList Tryz.prog ops Q (o :: rest) a w :=
  appendXs hgd s x ho (OwnX.nil_ w) rfl htx hm hs hx (by omega) fun z cap w' h1 => by
    rw [Nat.zero_add] at h1 ⊢
    exact h z cap w' h1
end Go.Proofs.YtopghlnoklajkaaGreatDoor
