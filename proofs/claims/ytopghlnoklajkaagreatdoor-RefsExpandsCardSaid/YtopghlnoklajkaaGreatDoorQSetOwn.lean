/-
  GivKit, TxKit, SetKit, SetOwn.
-/
import Derived.Test.YtopghlnoklajkaaGreatDoorQKeyFinds
import Derived.Deep.AppendLies
import Derived.Deep.RegionLaw
import Derived.Laws.OwnMore
import Derived.Test.YtopghlnoklajkaaGreatDoorQRowOps
import Derived.Test.YtopghlnoklajkaaGreatDoorQRefsRow
import Derived.Test.YtopghlnoklajkaaGreatDoorQValueRight
namespace Go.Proofs.YtopghlnoklajkaaGreatDoor
open Go.ChangeShapes Go.WideShapes Go.ChangeAt Go.RowKit

structure GivV where
 name : ByteArray
 text : ByteArray
 at_ : Int
instance : Inhabited GivV := ⟨⟨⟨#[]⟩, ⟨#[]⟩, 0⟩⟩
theorem infoTx : (Tryz.prog.info? 9).map (fun i => (i.zero, i.size, i.bytes)) = some (some (.string ByteArray.empty), 1, 16) := by kernel_rfl
structure OwnX (w0 w : World) (v : Value) (ts : List ByteArray) : Prop where
 own : w.ownsRow w0.heap.size 9 1 v ts.length (ts.map Value.string)
 below : Below w0.heap.size w0 w
theorem OwnX.nil_ (w : World) : OwnX w w (.slice none 0 0) [] := ⟨World.ownsRow_nil _ _ _ _, Below.refl _ _⟩
theorem OwnX.after {w0 w w' : World} {v : Value} {ts : List ByteArray} (h : OwnX w0 w v ts) (hb : Below w.heap.size w w') : OwnX w0 w' v ts :=
 ⟨h.own.kept (row := none) ⟨hb.os, hb.tape, hb.output, hb.size, fun k hk _ => hb.block k hk⟩ (by cases hv : v.ownBlock <;> simp), h.below.trans (hb.mono h.below.size)⟩
theorem own_form {w : World} {B : Nat} {e : TypeId} {size n : Nat} {v : Value} {xs : List Value} (h : w.ownsRow B e size v n xs) : ∃ x c, v = .slice x n c := by
 rcases h.2 with ⟨h1, h2⟩ | ⟨g, cap, cur, h1, _⟩
 ·exact ⟨none, 0, by rw [h1, h2]⟩
 ·exact ⟨_, _, h1⟩
theorem appendX {ops : Array Oper} {rest : List Oper} {o : Oper} {a : Act} {Q : Exit → Act → World → Prop} (hgd : o.guard = none) (s x : Operand)
  (ho : o.op = .call { callee := .builtin .append, args := #[s, x], argTypes := #[24, 24] }) {w0 w : World} {v : Value} {t : ByteArray} {ts : List ByteArray} (hown : OwnX w0 w v ts) (hn : ts.length ≤ 10000000000) (hs : a.eval s = v)
  {c g : Nat} (hx : a.eval x = .slice (some ⟨g, 0, none⟩) 1 c) (hg : g = w.heap.size)
  (h : ∀ y cap w', OwnX w0 w' (.slice (some ⟨y, 0, none⟩) (ts.length + 1) cap) (ts ++ [t]) → wpList Tryz.prog ops Q rest (a.put o.dst (.slice (some ⟨y, 0, none⟩) (ts.length + 1) cap)) w') :
  wpList Tryz.prog ops Q (o :: rest) a (w.alloc (Obj.cells #[.string t] 9)) := by
 subst hg
 obtain ⟨i0, hi, hz0, hz1, hz2⟩ := info_parts infoTx
 have hz := hown.below.size
 refine wpList_append_lies _ hgd s x _ ho w0.heap.size 9 i0 _ 1 16 Tryz.underlying24 hi hz0 hz1 hz2 rfl (by decide) v ts.length (ts.map Value.string) hs (hown.own.alloc _) ⟨w.heap.size, 0, none⟩ 1 c [.string t] hx rfl (World.news_of_block (heap_alloc_new w _)) ?_ (by decide) (by unfold maxLen; omega) (by omega) (by have := (below_one w (Obj.cells #[.string t] 9)).size; omega) _ rfl ?_
 ·intro u' hu'
  rw [List.mem_singleton.1 hu']; rfl
 ·intro y cap w1 h1 h2 _ _
  exact h y cap w1 ⟨by simpa using h1, (hown.below.alloc hz _).grown h2 (by simp; omega) (fun k hk => (hown.own.lt k hk).1)⟩
theorem own_ne {w : World} {B q size n : Nat} {e t : TypeId} {v : Value} {xs : List Value} {a : Array Value} {fr : Nat × Nat} (h : w.ownsRow B e size v n xs) (hq : w.heap[q]? = some (Obj.cells a t fr)) (hne : t ≠ e) : v.ownBlock ≠ some q := by
 intro hv
 rcases h.2 with ⟨h1, _⟩ | ⟨g, cap, cur, h1, _, hg, _⟩
 ·rw [h1] at hv; cases hv
 ·rw [h1] at hv
  have : g = q := by injection hv
  subst this
  rw [hq] at hg
  injection hg with hg
  injection hg with _ h2 _
  exact hne h2
theorem heap_ltF {w : World} {q : Nat} {o : Obj} (h : w.heap[q]? = some o) : q < w.heap.size := (Array.getElem?_eq_some_iff.1 h).1
def TxAt (w : World) (x : Option Addr) (ts : List ByteArray) : Prop := ∀ k (h : k < ts.length), ∃ b off, x = some ⟨b, off, none⟩ ∧ b < w.heap.size ∧ w.cell? ⟨b, off + k, none⟩ = some (.string ts[k])
theorem TxAt.below {w w' : World} {x : Option Addr} {ts : List ByteArray} (h : TxAt w x ts) (hb : Below w.heap.size w w') : TxAt w' x ts := fun k hk => by
 obtain ⟨b, off, e, hl, hc⟩ := h k hk
 exact ⟨b, off, e, Nat.lt_of_lt_of_le hl hb.size, by rw [hb.cell (p := ⟨b, off + k, none⟩) hl]; exact hc⟩
theorem OwnX.texts {w0 w : World} {v : Value} {ts : List ByteArray} (h : OwnX w0 w v ts) : ∃ x c, v = .slice x ts.length c ∧ TxAt w x ts := by
 rcases h.own.2 with ⟨h1, h2⟩ | ⟨g, cap, cur, h1, _, hg, _⟩
 ·refine ⟨none, 0, by rw [h1, h2], fun k hk => ?_⟩
  omega
 ·refine ⟨_, _, h1, fun k hk => ⟨g, 0, rfl, (Array.getElem?_eq_some_iff.1 hg).1, ?_⟩⟩
  have hv := h.own
  rw [h1] at hv
  rw [Nat.zero_add, hv.cellAt k (by omega), List.getElem?_map, List.getElem?_eq_getElem hk]; rfl
def KeysAt (w : World) (x : Option Addr) (xs : List KeyV) : Prop :=
 ∀ i (h : i < xs.length), ∃ b off, x = some ⟨b, off, none⟩ ∧ b < w.heap.size ∧ w.cell? ⟨b, off + i * 6, none⟩ = some (.string xs[i].name) ∧ w.cell? ⟨b, off + i * 6 + 1, none⟩ = some (.int .i64 xs[i].kind) ∧ w.cell? ⟨b, off + i * 6 + 2, none⟩ = some (.string xs[i].dflt) ∧
  w.cell? ⟨b, off + i * 6 + 3, none⟩ = some (.int .i64 xs[i].least) ∧ w.cell? ⟨b, off + i * 6 + 4, none⟩ = some (.int .i64 xs[i].most) ∧ w.cell? ⟨b, off + i * 6 + 5, none⟩ = some (.string xs[i].letter)
theorem KeysAt.below {w w' : World} {x : Option Addr} {xs : List KeyV} (h : KeysAt w x xs) (hb : Below w.heap.size w w') : KeysAt w' x xs := fun i hi => by
 obtain ⟨b, off, e, hl, c0, c1, c2, c3, c4, c5⟩ := h i hi
 exact ⟨b, off, e, Nat.lt_of_lt_of_le hl hb.size, by rw [hb.cell (p := ⟨b, _, none⟩) hl]; exact c0, by rw [hb.cell (p := ⟨b, _, none⟩) hl]; exact c1, by rw [hb.cell (p := ⟨b, _, none⟩) hl]; exact c2, by rw [hb.cell (p := ⟨b, _, none⟩) hl]; exact c3, by rw [hb.cell (p := ⟨b, _, none⟩) hl]; exact c4, by rw [hb.cell (p := ⟨b, _, none⟩) hl]; exact c5⟩
end Go.Proofs.YtopghlnoklajkaaGreatDoor

namespace Go.Proofs.YtopghlnoklajkaaGreatDoor
open Go.ChangeShapes Go.WideShapes Go.ChangeAt Go.RowKit

theorem cell_blkT {W W' : World} {R : Nat} (h : W'.heap[R]? = W.heap[R]?) (j : Nat) : W'.cell? ⟨R, j, none⟩ = W.cell? ⟨R, j, none⟩ := by unfold World.cell?; rw [h]
theorem OwnX.tx {w0 w : World} {x : Option Addr} {n c : Nat} {ts : List ByteArray} (h : OwnX w0 w (.slice x n c) ts) : TxAt w x ts := by
 obtain ⟨x', c', e, ht⟩ := h.texts
 injection e with e1 _ _
 rw [e1]; exact ht
theorem TxAt.other {w w' : World} {x : Option Addr} {ts : List ByteArray} {q : Option Nat} (h : TxAt w x ts) (hg : w.grownBy w' q) (hne : ∀ b off, x = some ⟨b, off, none⟩ → q ≠ some b) : TxAt w' x ts := fun k hk => by
 obtain ⟨b, off, e, hl, hc⟩ := h k hk
 exact ⟨b, off, e, Nat.lt_of_lt_of_le hl hg.size, (cell_blkT (hg.block b hl (fun e' => hne b off e e'.symm)) (off + k)).trans hc⟩
theorem OwnX.new {w0 w : World} {x : Option Addr} {n c : Nat} {ts : List ByteArray} (h : OwnX w0 w (.slice x n c) ts) : ∀ b off, x = some ⟨b, off, none⟩ → w0.heap.size ≤ b ∧ b < w.heap.size := fun b off e => by
 subst e
 exact h.own.lt b rfl
theorem OwnX.form {w0 w : World} {x : Option Addr} {n c : Nat} {ts : List ByteArray} (h : OwnX w0 w (.slice x n c) ts) (hn : 0 < n) : ∃ g, x = some ⟨g, 0, none⟩ ∧ ts.length = n := by
 rcases h.own.2 with ⟨h1, h2⟩ | ⟨g, cap, cur, h1, _⟩
 ·injection h1 with _ h3 _
  omega
 ·injection h1 with h3 h4 _
  exact ⟨g, h3, h4.symm⟩
theorem OwnX.put {w0 w : World} {g n c : Nat} {ts : List ByteArray} (h : OwnX w0 w (.slice (some ⟨g, 0, none⟩) n c) ts) (hn : ts.length = n) (j : Nat) (hj : j < n) (u : ByteArray) :
  (∃ a, w.cell? ⟨g, j, none⟩ = some a) ∧ w.frozen? ⟨g, j, none⟩ = false ∧ OwnX w0 (w.setCell ⟨g, j, none⟩ (.string u)) (.slice (some ⟨g, 0, none⟩) n c) (ts.set j u) ∧ w.grownBy (w.setCell ⟨g, j, none⟩ (.string u)) (some g) := by
 subst hn
 have ho := h.own
 have hc := ho.cellAt j (by omega)
 obtain ⟨h1, h2⟩ := ho.stored j (.string u)
 refine ⟨⟨_, hc.trans (List.getElem?_eq_getElem (by simpa using hj))⟩, ho.frozenAt j, ⟨?_, h.below.setCell (p := ⟨g, j, none⟩) (h.new g 0 rfl).1 _⟩, h2⟩
 rw [List.length_set, List.map_set]
 exact h1
theorem run_append_zero (w : World) (x : Option Addr) (n c : Nat) (hc : n ≤ c) (y : Option Addr) (d : Nat) (ty : TypeId) :
  (Builtin.append_ #[24, 24] ty #[.slice x n c, .slice y 0 d]).run Tryz.prog w = .ok (.slice x n c) w := by
 obtain ⟨i0, hi, hz0, hz1, hz2⟩ := info_parts infoTx
 have u3 := Tryz.underlying9
 cases x with
 | none =>
  cases y with
  | none => simp [Builtin.append_, run_underlying Tryz.underlying24, Builtin.lenOf, Builtin.firstCells, sizeOf, typeInfo, hi, hc]
  | some a =>
   have h0 := run_loadCells_list (P := Tryz.prog) w a [] (fun j v h => by simp at h)
   simp at h0
   simp [Builtin.append_, run_underlying Tryz.underlying24, Builtin.lenOf, Builtin.firstCells, sizeOf, typeInfo, hi, hc, h0]
 | some b =>
  cases y with
  | none => simp [Builtin.append_, run_underlying Tryz.underlying24, Builtin.lenOf, Builtin.firstCells, sizeOf, typeInfo, hi, hc, storeCells]
  | some a =>
   have h0 := run_loadCells_list (P := Tryz.prog) w a [] (fun j v h => by simp at h)
   simp at h0
   simp [Builtin.append_, run_underlying Tryz.underlying24, Builtin.lenOf, Builtin.firstCells, sizeOf, typeInfo, hi, hc, h0, storeCells]
theorem appendXs {ops : Array Oper} {rest : List Oper} {o : Oper} {a : Act} {Q : Exit → Act → World → Prop} (hgd : o.guard = none) (s x : Operand)
  (ho : o.op = .call { callee := .builtin .append, args := #[s, x], argTypes := #[24, 24] }) {w0 w : World} {x0 : Option Addr} {n0 c0 : Nat} {ts us : List ByteArray} (hown : OwnX w0 w (.slice x0 n0 c0) ts) (hn0 : ts.length = n0) {y : Option Addr} {m c : Nat} (htx : TxAt w y us) (hm : us.length = m) (hs : a.eval s = .slice x0 n0 c0) (hx : a.eval x = .slice y m c)
  (hb : n0 + m ≤ 10000000000)
  (h : ∀ z cap w', OwnX w0 w' (.slice z (n0 + m) cap) (ts ++ us) → wpList Tryz.prog ops Q rest (a.put o.dst (.slice z (n0 + m) cap)) w') : wpList Tryz.prog ops Q (o :: rest) a w := by
 subst hm hn0
 obtain ⟨i0, hi, hz0, hz1, hz2⟩ := info_parts infoTx
 have hz := hown.below.size
 by_cases h0 : us.length = 0
 ·have hus : us = [] := List.eq_nil_of_length_eq_zero h0
  subst hus
  have hc : ts.length ≤ c0 := by
   rcases hown.own.2 with ⟨h1, h2⟩ | ⟨g, cap, cur, h1, _, _, hnc, _⟩
   ·injection h1 with _ _ h3; omega
   ·injection h1 with _ _ h3; omega
  have hh := h x0 c0 w (by simpa using hown)
  simp only [List.length_nil, Nat.add_zero] at hh hx
  exact wpList_append_eq hgd s x _ _ ho _ _ _ hs hx (run_append_zero w x0 ts.length c0 hc y c o.type) hh
 ·obtain ⟨b, off, hy, _, _⟩ := htx 0 (by omega)
  subst hy
  refine wpList_append_lies _ hgd s x _ ho w0.heap.size 9 i0 _ 1 16 Tryz.underlying24 hi hz0 hz1 hz2 rfl (by decide) _ ts.length (ts.map Value.string) hs hown.own ⟨b, off, none⟩ us.length c (us.map Value.string) hx (by simp) (fun j u hj => ?_) ?_ (by omega) (by unfold maxLen; omega) (by omega) (by omega) _ rfl ?_
  ·have hjl : j < us.length := by have := (List.getElem?_eq_some_iff.1 hj).1; simpa using this
   obtain ⟨b', off', e, _, hc⟩ := htx j hjl
   obtain ⟨rfl, rfl⟩ : b = b' ∧ off = off' := by simpa using e
   rw [add_at, hc]
   rw [List.getElem?_map, List.getElem?_eq_getElem hjl] at hj
   exact hj
  ·intro u hu
   obtain ⟨t, _, rfl⟩ := List.mem_map.1 hu
   rfl
  ·intro g cap w1 h1 h2 _ _
   refine h (some ⟨g, 0, none⟩) cap w1 ⟨?_, hown.below.grown h2 (by omega) (fun k hk => (hown.own.lt k hk).1)⟩
   rw [List.length_append, List.map_append]
   exact h1
theorem append0 {ops : Array Oper} {rest : List Oper} {o : Oper} {a : Act} {Q : Exit → Act → World → Prop} (hgd : o.guard = none) (s x : Operand)
  (ho : o.op = .call { callee := .builtin .append, args := #[s, x], argTypes := #[24, 24] }) {w : World} {us : List ByteArray} {y : Option Addr} {m c : Nat} (htx : TxAt w y us) (hm : us.length = m) (hs : a.eval s = .slice none 0 0) (hx : a.eval x = .slice y m c)
  (hb : m ≤ 10000000000)
  (h : ∀ z cap w', OwnX w w' (.slice z m cap) us → wpList Tryz.prog ops Q rest (a.put o.dst (.slice z m cap)) w') : wpList Tryz.prog ops Q (o :: rest) a w :=
 appendXs hgd s x ho (OwnX.nil_ w) rfl htx hm hs hx (by omega) fun z cap w' h1 => by
  rw [Nat.zero_add] at h1 ⊢
  exact h z cap w' h1
end Go.Proofs.YtopghlnoklajkaaGreatDoor

namespace Go.Proofs.YtopghlnoklajkaaGreatDoor
open Go.ChangeShapes Go.WideShapes Go.ChangeAt Go.RowKit

structure SetV where
 name : ByteArray
 val : Val
 from_ : Int
structure SetM where
 x : SetV
 a : Option Addr
 c : Nat
def sCells (m : SetM) : List Value := [.string m.x.name, .int .i64 m.x.val.kind, .int .i64 m.x.val.int, .string m.x.val.text, .slice m.a m.x.val.words.length m.c, .int .i64 m.x.from_]
def sFlat (ms : List SetM) : List Value := ms.flatMap sCells
theorem sFlat_len (ms : List SetM) : (sFlat ms).length = ms.length * 6 := by
 unfold sFlat
 induction ms with
 | nil => rfl
 | cons m r ih => rw [List.flatMap_cons, List.length_append, ih]; simp [sCells]; omega
theorem sFlat_app (a b : List SetM) : sFlat (a ++ b) = sFlat a ++ sFlat b := by unfold sFlat; rw [List.flatMap_append]
theorem sFlat_snoc (a : List SetM) (m : SetM) : sFlat (a ++ [m]) = sFlat a ++ sCells m := by rw [sFlat_app]; simp [sFlat]
theorem sCells_one (m : SetM) : ∀ v ∈ sCells m, v.oneCell' = true := by
 intro v hv
 unfold sCells at hv
 simp only [List.mem_cons, List.not_mem_nil, or_false] at hv
 rcases hv with rfl | rfl | rfl | rfl | rfl | rfl <;> rfl
theorem sFlat_at (l : List SetM) : ∀ k (h : k < l.length) j, j < 6 → (sFlat l)[k * 6 + j]? = (sCells l[k])[j]? := by
 induction l with
 | nil => intro k h; simp at h
 | cons m r ih =>
  intro k h j hj
  unfold sFlat
  rw [List.flatMap_cons]
  cases k with
  | zero =>
   rw [Nat.zero_mul, Nat.zero_add, List.getElem?_append_left (by simp [sCells]; omega)]
   rfl
  | succ k =>
   rw [List.getElem?_append_right (by simp [sCells]; omega)]
   have := ih k (by simpa using h) j hj
   simp only [List.getElem_cons_succ]
   rw [← this]
   unfold sFlat
   congr 1
   simp [sCells]
   omega
theorem infoSet : (Tryz.prog.info? 50).map (fun i => (i.zero, i.size, i.bytes)) = some (some (.agg #[.string ByteArray.empty, .int .i64 0, .int .i64 0, .string ByteArray.empty, .slice none 0 0, .int .i64 0]), 6, 80) := by kernel_rfl
def WdsAt (w : World) (m : SetM) (q : Option Nat) : Prop := TxAt w m.a m.x.val.words ∧ m.x.val.words.length ≤ m.c ∧ ∀ b off, 0 < m.x.val.words.length → m.a = some ⟨b, off, none⟩ → q ≠ some b
structure SetsAt (B : Nat) (w : World) (v : Value) (ms : List SetM) : Prop where
 row : w.ownsRow B 50 6 v ms.length (sFlat ms)
 wds : ∀ m ∈ ms, WdsAt w m v.ownBlock
section
variable {B B' : Nat} {w w' : World} {v v' : Value} {ms : List SetM} {m : SetM} {q : Option Nat}
theorem SetsAt.nil_ (B : Nat) (w : World) : SetsAt B w (.slice none 0 0) [] := ⟨World.ownsRow_nil _ _ _ _, fun m hm => by cases hm⟩
theorem WdsAt.below (h : WdsAt w m q) (hb : Below w.heap.size w w') : WdsAt w' m q := ⟨h.1.below hb, h.2.1, h.2.2⟩
theorem SetsAt.below (h : SetsAt B w v ms) (hb : Below w.heap.size w w') : SetsAt B w' v ms := ⟨rowBelow h.row hb, fun m hm => (h.wds m hm).below hb⟩
theorem WdsAt.grownTx (h : WdsAt w m q) (hg : w.grownBy w' q) : TxAt w' m.a m.x.val.words := by
 rcases Nat.eq_zero_or_pos m.x.val.words.length with h0 | h0
 ·intro k hk; omega
 ·exact h.1.other hg fun b off e => h.2.2 b off h0 e
theorem WdsAt.lt (h : WdsAt w m q) (hn : 0 < m.x.val.words.length) : ∃ b off, m.a = some ⟨b, off, none⟩ ∧ b < w.heap.size := by
 obtain ⟨b, off, e, hl, _⟩ := h.1 0 hn
 exact ⟨b, off, e, hl⟩
theorem SetsAt.push (h : SetsAt B w v ms) {n B2 : Nat} (hn : m.x.val.words.length = n) (hw : w.ownsRow B2 9 1 (.slice m.a n m.c) n (m.x.val.words.map Value.string)) (hr : w'.ownsRow B 50 6 v' (ms.length + 1) (sFlat ms ++ sCells m)) {o : Obj} (hg : (w.alloc o).grownBy w' v.ownBlock) (hi : ∀ g, v'.ownBlock = some g → v.ownBlock = some g ∨ w.heap.size ≤ g) : SetsAt B w' v' (ms ++ [m]) := by
 have hg2 := grownAlloc hg
 refine ⟨by rw [List.length_append, sFlat_snoc]; exact hr, fun m0 hm => ?_⟩
 rcases List.mem_append.1 hm with hm | hm
 ·have h0 := h.wds m0 hm
  refine ⟨h0.grownTx hg2, h0.2.1, fun b off hpos e hq => ?_⟩
  obtain ⟨b', off', e', hl⟩ := h0.lt hpos
  obtain ⟨rfl, rfl⟩ : b = b' ∧ off = off' := by simpa using e.symm.trans e'
  rcases hi b hq with h1 | h1
  ·exact h0.2.2 b off hpos e h1
  ·omega
 ·rw [List.mem_singleton.1 hm]
  have hw2 := rowGrown hw h.row (by decide) hg
  have hx : OwnX w w' (.slice m.a n m.c) m.x.val.words → TxAt w' m.a m.x.val.words := fun h => h.tx
  refine ⟨?_, ?_, fun b off hpos e hq => ?_⟩
  ·intro k hk
   rcases hw2.2 with ⟨h1, h2⟩ | ⟨g, cap, cur, h1, _, hgg, _⟩
   ·omega
   ·injection h1 with h1 _ _
    refine ⟨g, 0, h1, heap_lt hgg, ?_⟩
    have hv := hw2
    rw [h1] at hv
    rw [Nat.zero_add, hv.cellAt k (by omega), List.getElem?_map, List.getElem?_eq_getElem hk]; rfl
  ·rcases hw2.2 with ⟨h1, h2⟩ | ⟨g, cap, cur, h1, _, _, hnc, _⟩
   ·omega
   ·injection h1 with _ _ h3
    omega
  ·have := rowApart hw2 hr (by decide)
   rcases this with h1 | h1
   ·rw [e] at h1; simp [Value.ownBlock] at h1
   ·rw [e] at h1
    exact h1 (by rw [hq]; rfl)
theorem SetsAt.cells (h : SetsAt B w v ms) {k : Nat} (hk : k < ms.length) : ∃ b c, v = .slice (some ⟨b, 0, none⟩) ms.length c ∧ b < w.heap.size ∧ ∀ j, j < 6 → w.cell? ⟨b, k * 6 + j, none⟩ = (sCells ms[k])[j]? := by
 have hs := sFlat_len ms
 rcases h.row.2 with ⟨h1, h2⟩ | ⟨g, cap, cur, h1, _, hg, _⟩
 ·omega
 ·have hv := h.row
  rw [h1] at hv
  refine ⟨g, cap, h1, heap_lt hg, fun j hj => ?_⟩
  rw [hv.cellAt (k * 6 + j) (by omega), sFlat_at ms k hk j hj]
theorem SetsAt.form (h : SetsAt B w v ms) : ∃ x c, v = .slice x ms.length c := own_form h.row
end
theorem appendSt {ops : Array Oper} {rest : List Oper} {o : Oper} {a : Act} {Q : Exit → Act → World → Prop} (hgd : o.guard = none) (s x : Operand)
  (ho : o.op = .call { callee := .builtin .append, args := #[s, x], argTypes := #[40, 40] }) {B n : Nat} {w : World} {v : Value} {ms : List SetM} (hown : w.ownsRow B 50 6 v n (sFlat ms)) (hB : B ≤ w.heap.size) (hn : n ≤ 10000000000) (m : SetM) (cs : Array Value) (hcs : cs = (sCells m).toArray) (hs : a.eval s = v)
  {c g : Nat} (hx : a.eval x = .slice (some ⟨g, 0, none⟩) 1 c) (hg : g = w.heap.size)
  (h : ∀ y cap w', w'.ownsRow B 50 6 (.slice (some ⟨y, 0, none⟩) (n + 1) cap) (n + 1) (sFlat ms ++ sCells m) → (w.alloc (Obj.cells cs 50)).grownBy w' v.ownBlock → (v.ownBlock = some y ∨ w.heap.size ≤ y) → wpList Tryz.prog ops Q rest (a.put o.dst (.slice (some ⟨y, 0, none⟩) (n + 1) cap)) w') :
  wpList Tryz.prog ops Q (o :: rest) a (w.alloc (Obj.cells cs 50)) := by
 subst hg hcs
 obtain ⟨i0, hi, hz0, hz1, hz2⟩ := info_parts infoSet
 refine wpList_append_lies _ hgd s x _ ho B 50 i0 _ 6 80 Tryz.underlying40 hi hz0 hz1 hz2 rfl (by decide) v n (sFlat ms) hs (hown.alloc _) ⟨w.heap.size, 0, none⟩ 1 c (sCells m) hx rfl (World.news_of_block (heap_alloc_new w _)) (sCells_one m) (by decide) (by unfold maxLen; omega) (by omega) (Nat.le_trans hB (below_one w _).size) _ rfl ?_
 intro y cap w1 h1 h2 h3 _
 exact h y cap w1 h1 h2 (h3.imp id fun h3 => by rw [h3]; exact (below_one w _).size)
theorem stepSt {ops : Array Oper} {o : Oper} {a : Act} {W : World} {K : Act → World → Prop} {Q : Exit → Act → World → Prop} {E : Prop} (hgd : o.guard = none) (sl x : Operand)
  (ho : o.op = .call { callee := .builtin .append, args := #[sl, x], argTypes := #[40, 40] }) {B n : Nat} {v : Value} {ms : List SetM} (hown : W.ownsRow B 50 6 v n (sFlat ms)) (hB : B ≤ W.heap.size) (hn : n ≤ 10000000000) (m : SetM) (hs : a.eval sl = v)
  {g c : Nat} (hx : a.eval x = .slice (some ⟨g, 0, none⟩) 1 c) (hk : ∀ j u, (sCells m)[j]? = some u → W.cell? ⟨g, j, none⟩ = some u)
  (h : ∀ y cap W2, W2.ownsRow B 50 6 (.slice (some ⟨y, 0, none⟩) (n + 1) cap) (n + 1) (sFlat ms ++ sCells m) → W.grownBy W2 v.ownBlock → (v.ownBlock = some y ∨ W.heap.size ≤ y) → K (a.put o.dst (.slice (some ⟨y, 0, none⟩) (n + 1) cap)) W2) :
  if Region.wanted o (yielded ops a.tmps) = true then Oper.wp Tryz.prog o a W K Q else E := by
 obtain ⟨i0, hi, hz0, hz1, hz2⟩ := info_parts infoSet
 refine step_append_lies _ hgd sl x _ ho B 50 i0 _ 6 80 Tryz.underlying40 hi hz0 hz1 hz2 rfl (by decide) v n (sFlat ms) hs hown ⟨g, 0, none⟩ 1 c (sCells m) hx rfl (fun j u hu => by rw [add_zero_at]; exact hk j u hu) (sCells_one m) (by decide) (by unfold maxLen; omega) (by omega) hB _ rfl ?_
 intro y cap W2 h1 h2 h3 _
 exact h y cap W2 h1 h2 (h3.imp id fun h3 => by rw [h3]; exact Nat.le_refl _)
def SObj (w : World) (X : Nat) (kv lv : Value) : Prop := ∃ fr, w.heap[X]? = some (Obj.cells #[kv, lv] 87 fr)
theorem SObj.below {w w' : World} {X : Nat} {kv lv : Value} (h : SObj w X kv lv) (hb : Below w.heap.size w w') : SObj w' X kv lv := by
 obtain ⟨fr, h⟩ := h
 exact ⟨fr, (hb.block X (heap_ltF h)).trans h⟩
theorem SObj.cells {w : World} {X : Nat} {kv lv : Value} (h : SObj w X kv lv) : w.cell? ⟨X, 0, none⟩ = some kv ∧ w.cell? ⟨X, 1, none⟩ = some lv := by
 obtain ⟨fr, h⟩ := h
 exact ⟨by rw [cell_of_row w X 0 _ _ _ h]; rfl, by rw [cell_of_row w X 1 _ _ _ h]; rfl⟩
def placeGo (s : ByteArray) : List ByteArray → Nat → Int
 | [], _ => -1
 | n :: r, k => if (n.toList == s.toList) = true then k else placeGo s r (k + 1)
def placeN (ns : List ByteArray) (s : ByteArray) : Int := placeGo s ns 0
theorem placeGo_drop (s : ByteArray) (ns : List ByteArray) (k : Nat) (h : k < ns.length) : placeGo s (ns.drop k) k = if (ns[k].toList == s.toList) = true then (k : Int) else placeGo s (ns.drop (k + 1)) (k + 1) := by
 rw [List.drop_eq_getElem_cons h, placeGo]
def namesM (ms : List SetM) : List ByteArray := ms.map (·.x.name)
set_option maxHeartbeats 1600000 in
set_option maxRecDepth 100000 in
theorem splace_any (B X : Nat) (w : World) (kv lv : Value) (ms : List SetM) (s : ByteArray) (hX : SObj w X kv lv) (h : SetsAt B w lv ms) (hn : ms.length ≤ 4294967280) :
  Calls Tryz.prog 73 #[.pointer (some ⟨X, 0, none⟩), .string s] w fun e w' => e = .returned (.int .i64 (placeN (namesM ms) s)) ∧ w = w' := by
 obtain ⟨R, hR⟩ : ∃ R, placeN (namesM ms) s = R := ⟨_, rfl⟩
 have HR : Hid (placeGo s ((namesM ms).drop 0) 0 = R) := Lib.hid hR
 rw [hR]
 obtain ⟨x0, c0', hlv⟩ := h.form
 obtain ⟨n, hn'⟩ : ∃ n, ms.length = n := ⟨_, rfl⟩
 have HN := Lib.hid hn'
 have H := Lib.hid h
 obtain ⟨x0', x1'⟩ := hX.cells
 rw [hn'] at hlv hn
 subst hlv
 clear hX h hn' hR
 go_enter Tryz.func73, Tryz.ntmps73
 go_wp2
 go_loopw [5] (fun i wr => ∃ k : Nat, i = .int .i64 k ∧ k ≤ n ∧ Hid (placeGo s ((namesM ms).drop k) k = R) ∧ w = wr) (fun i _ => n - (intOf i).toNat)
 case atStart => exact ⟨0, rfl, by omega, HR, rfl⟩
 case round =>
  clear HR
  obtain ⟨k, rfl, hk, HR, rfl⟩ := hrel
  by_cases hlt : k < n
  ·have q1 : (0 : Int) ≤ k := by omega
   have q2 : (k : Int) < n := by omega
   have hkm : k < ms.length := by rw [HN.out]; exact hlt
   obtain ⟨b, c, hbe, _, hcs⟩ := H.out.cells hkm
   injection hbe with hbe hx1 hx2
   have c0 := hcs 0 (by decide)
   rw [Nat.add_zero] at c0
   have hRR := HR.out
   rw [placeGo_drop s (namesM ms) k (by unfold namesM; rw [List.length_map]; exact hkm)] at hRR
   have hnm : (namesM ms)[k]'(by unfold namesM; rw [List.length_map]; exact hkm) = ms[k].x.name := by simp [namesM]
   rw [hnm] at hRR
   replace c0 : w.cell? ⟨b, k * 6, none⟩ = some (.string ms[k].x.name) := c0
   generalize ms[k].x.name = nm at c0 hRR
   have HRR := Lib.hid hRR
   subst hbe
   clear hcs hnm hRR hx1 hx2 hkm HR
   by_cases he : (nm.toList == s.toList) = true
   ·have hRk : Hid ((k : Int) = R) := Lib.hid (by have := HRR.out; rwa [if_pos he] at this)
    clear HRR
    go_wp2
    go_ret
    exact ⟨by rw [← hRk.out]; rfl, rfl⟩
   ·have he2 : (nm.toList == s.toList) = false := by simpa using he
    have HR2 : Hid (placeGo s ((namesM ms).drop (k + 1)) (k + 1) = R) := Lib.hid (by have := HRR.out; rwa [if_neg he] at this)
    clear HRR he
    go_wp2
    go_roundw
    case rel => exact ⟨k + 1, by go_num, by omega, HR2, by first | rfl | trivial⟩
    case measure => simp [intOf]; omega
  ·obtain rfl : k = n := by omega
   have q2 : ¬ (k : Int) < k := by omega
   have HR2 : Hid ((-1 : Int) = R) := Lib.hid (by
    have := HR.out
    rwa [List.drop_eq_nil_of_le (by unfold namesM; rw [List.length_map, HN.out]; exact Nat.le_refl _), placeGo] at this)
   clear HR
   go_wp2
   go_ret
   exact ⟨by rw [← HR2.out]; rfl, rfl⟩
end Go.Proofs.YtopghlnoklajkaaGreatDoor

namespace Go.Proofs.YtopghlnoklajkaaGreatDoor
open Go.ChangeShapes Go.WideShapes Go.ChangeAt Go.RowKit

theorem ownLess {w : World} {B B' : Nat} {e : TypeId} {size n : Nat} {v : Value} {xs : List Value} (h : w.ownsRow B' e size v n xs) (hB : B ≤ B') : w.ownsRow B e size v n xs := by
 refine ⟨h.1, ?_⟩
 rcases h.2 with h2 | ⟨g, cap, cur, h1, h2, h3⟩
 ·exact .inl h2
 ·exact .inr ⟨g, cap, cur, h1, Nat.le_trans hB h2, h3⟩
theorem setGrown (w : World) (S i : Nat) (u : Value) : w.grownBy (w.setCell ⟨S, i, none⟩ u) (some S) := ⟨rfl, rfl, rfl, by simp [World.setCell], fun q _ hne => Below.heap_setCell _ _ _ _ (fun e => hne (by rw [e]))⟩
theorem rowSet {w : World} {B S i : Nat} {e : TypeId} {size n : Nat} {v u : Value} {xs : List Value} (h : w.ownsRow B e size v n xs) (hS : S < B) : (w.setCell ⟨S, i, none⟩ u).ownsRow B e size v n xs :=
 h.kept (setGrown w S i u) (.inr fun hq => by have := (h.lt S hq).1; omega)
theorem five_cells (w w3 : World) (S : Nat) (a b c d e : Value) {B n : Nat} {v : Value} {xs : List Value} (hb : Below w.heap.size w w3) (hS : w.heap.size ≤ S) (hB : S + 2 ≤ B) (h : w3.ownsRow B 9 1 v n xs) :
  (((((w3.setCell ⟨S, 3, none⟩ a).setCell ⟨S + 1, 0, none⟩ b).setCell ⟨S + 1, 1, none⟩ c).setCell ⟨S + 1, 2, none⟩ d).setCell ⟨S + 1, 3, none⟩ e).ownsRow w.heap.size 9 1 v n xs ∧
  Below w.heap.size w (((((w3.setCell ⟨S, 3, none⟩ a).setCell ⟨S + 1, 0, none⟩ b).setCell ⟨S + 1, 1, none⟩ c).setCell ⟨S + 1, 2, none⟩ d).setCell ⟨S + 1, 3, none⟩ e) := by
 refine ⟨ownLess ?_ (show w.heap.size ≤ B by omega), ?_⟩
 ·exact rowSet (rowSet (rowSet (rowSet (rowSet h (by omega)) (by omega)) (by omega)) (by omega)) (by omega)
 ·exact ((((hb.setCell (p := ⟨S, 3, none⟩) hS a).setCell (p := ⟨S + 1, 0, none⟩) (show w.heap.size ≤ S + 1 by omega) b).setCell (p := ⟨S + 1, 1, none⟩) (show w.heap.size ≤ S + 1 by omega) c).setCell (p := ⟨S + 1, 2, none⟩) (show w.heap.size ≤ S + 1 by omega) d).setCell (p := ⟨S + 1, 3, none⟩) (show w.heap.size ≤ S + 1 by omega) e
set_option maxHeartbeats 1600000 in
set_option maxRecDepth 100000 in
theorem sown_any (w : World) (v : Val) (x : Option Addr) (c : Nat) (h : TxAt w x v.words) (hl : v.words.length ≤ 4294967280) :
  Calls Tryz.prog 36 #[argV v x c] w fun e w' => ∃ y d, e = .returned (argV v y d) ∧ w'.ownsRow w.heap.size 9 1 (.slice y v.words.length d) v.words.length (v.words.map Value.string) ∧ Below w.heap.size w w' := by
 obtain ⟨kd, it, tx, ws⟩ := v
 simp only at h hl ⊢
 obtain ⟨n, hn⟩ : ∃ n, ws.length = n := ⟨_, rfl⟩
 have HN := Lib.hid hn
 have HB : Hid (∀ o1 o2, TxAt ((w.alloc o1).alloc o2) x ws ∧ Below w.heap.size w ((w.alloc o1).alloc o2)) := Lib.hid fun o1 o2 => by
  have hb := (below_one w o1).trans ((below_one (w.alloc o1) o2).mono (below_one w o1).size)
  exact ⟨h.below hb, hb⟩
 have HX : Hid (∀ t1 o2, Box4 ((w.alloc (Obj.cells #[.int .i64 kd, .int .i64 it, .string tx, .slice x ws.length c] t1)).alloc o2) w.heap.size (.int .i64 kd) (.int .i64 it) (.string tx) (.slice x ws.length c)) := Lib.hid fun t1 o2 => (box4_new w _ _ _ _ t1).below (below_one _ _)
 have HZ : Hid (∀ o1 t2, Box4 ((w.alloc o1).alloc (Obj.cells #[.int .i64 0, .int .i64 0, .string ⟨#[]⟩, .slice none 0 0] t2)) (w.heap.size + 1) (.int .i64 0) (.int .i64 0) (.string ⟨#[]⟩) (.slice none 0 0)) := Lib.hid fun o1 t2 => by
  have := box4_new (w.alloc o1) (.int .i64 0) (.int .i64 0) (.string ⟨#[]⟩) (.slice none 0 0) t2
  simpa using this
 have HF : Hid (∀ w2 w3 z cap a b c d e, Below w.heap.size w w2 → w2.heap.size = w.heap.size + 2 → OwnX w2 w3 (.slice z n cap) ws → (((((w3.setCell ⟨w.heap.size, 3, none⟩ a).setCell ⟨w.heap.size + 1, 0, none⟩ b).setCell ⟨w.heap.size + 1, 1, none⟩ c).setCell ⟨w.heap.size + 1, 2, none⟩ d).setCell ⟨w.heap.size + 1, 3, none⟩ e).ownsRow w.heap.size 9 1 (.slice z n cap) n (ws.map Value.string) ∧ Below w.heap.size w (((((w3.setCell ⟨w.heap.size, 3, none⟩ a).setCell ⟨w.heap.size + 1, 0, none⟩ b).setCell ⟨w.heap.size + 1, 1, none⟩ c).setCell ⟨w.heap.size + 1, 2, none⟩ d).setCell ⟨w.heap.size + 1, 3, none⟩ e)) := Lib.hid fun w2 w3 z cap a b c d e h1 h2 h3 => by
  have h4 := h3.own
  rw [HN.out] at h4
  exact five_cells w w3 w.heap.size a b c d e (h1.trans (h3.below.mono h1.size)) (Nat.le_refl _) (by omega) h4
 unfold argV
 simp only
 rw [hn] at hl HX ⊢
 clear h hn
 go_enter Tryz.func36, Tryz.ntmps36
 go_wp2_with (at_builtin; refine append0 rfl _ _ rfl (HB.out _ _).1 HN.out rfl rfl (by omega) ?_; intro z cap w3 ho; obtain ⟨c0, c1, c2, c3, f0, f1, f2, f3⟩ := (HX.out _ _).below ho.below; obtain ⟨d0, d1, d2, d3, g0, g1, g2, g3⟩ := (HZ.out _ _).below ho.below; have HO := Lib.hid (fun a b c d e => HF.out _ _ _ _ a b c d e (HB.out _ _).2 (by simp) ho); clear ho)
 obtain ⟨o1, o2⟩ := HO.out (.slice z n cap) (.int .i64 kd) (.int .i64 it) (.string tx) (.slice z n cap)
 exact bodyPost_ret (v := .agg #[.int .i64 kd, .int .i64 it, .string tx, .slice z n cap]) (by simp [results, Tryz.results36, go_sem, d0, d1, d2, d3]) rfl ⟨z, cap, rfl, o1, o2⟩
end Go.Proofs.YtopghlnoklajkaaGreatDoor
