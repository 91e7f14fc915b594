/-
  GivKit, TxKit, SetKit.
-/
import Derived.Test.YtlcgfdijohgnpaaGreatDoorQKeyFinds
import Derived.Deep.AppendLies
import Derived.Deep.RegionLaw
import Derived.Laws.OwnMore
import Derived.Test.YtlcgfdijohgnpaaGreatDoorQRowOps
import Derived.Test.YtlcgfdijohgnpaaGreatDoorQRefsRow
namespace Go.Proofs.YtlcgfdijohgnpaaGreatDoor
open Go.ChangeShapes Go.WideShapes Go.ChangeAt Go.RowKit

structure GivV where
 name : ByteArray
 text : ByteArray
 at_ : Int
instance : Inhabited GivV := ⟨⟨⟨#[]⟩, ⟨#[]⟩, 0⟩⟩
theorem infoTx : (Tryz.prog.info? 9).map (fun i => (i.zero, i.size, i.bytes)) = some (some (.string ByteArray.empty), 1, 16) := by kernel_rfl
structure OwnX (w0 w : World) (v : Value) (ts : List ByteArray) : Prop where
 own : w.ownsRow w0.heap.size 9 1 v ts.length (ts.map Value.string)
 below : Below w0.heap.size w0 w
theorem OwnX.nil_ (w : World) : OwnX w w (.slice none 0 0) [] := ⟨World.ownsRow_nil _ _ _ _, Below.refl _ _⟩
theorem OwnX.after {w0 w w' : World} {v : Value} {ts : List ByteArray} (h : OwnX w0 w v ts) (hb : Below w.heap.size w w') : OwnX w0 w' v ts :=
 ⟨h.own.kept (row := none) ⟨hb.os, hb.tape, hb.output, hb.size, fun k hk _ => hb.block k hk⟩ (by cases hv : v.ownBlock <;> simp), h.below.trans (hb.mono h.below.size)⟩
theorem own_form {w : World} {B : Nat} {e : TypeId} {size n : Nat} {v : Value} {xs : List Value} (h : w.ownsRow B e size v n xs) : ∃ x c, v = .slice x n c := by
 rcases h.2 with ⟨h1, h2⟩ | ⟨g, cap, cur, h1, _⟩
 ·exact ⟨none, 0, by rw [h1, h2]⟩
 ·exact ⟨_, _, h1⟩
theorem appendX {ops : Array Oper} {rest : List Oper} {o : Oper} {a : Act} {Q : Exit → Act → World → Prop} (hgd : o.guard = none) (s x : Operand)
  (ho : o.op = .call { callee := .builtin .append, args := #[s, x], argTypes := #[26, 26] }) {w0 w : World} {v : Value} {t : ByteArray} {ts : List ByteArray} (hown : OwnX w0 w v ts) (hn : ts.length ≤ 10000000000) (hs : a.eval s = v)
  {c g : Nat} (hx : a.eval x = .slice (some ⟨g, 0, none⟩) 1 c) (hg : g = w.heap.size)
  (h : ∀ y cap w', OwnX w0 w' (.slice (some ⟨y, 0, none⟩) (ts.length + 1) cap) (ts ++ [t]) → wpList Tryz.prog ops Q rest (a.put o.dst (.slice (some ⟨y, 0, none⟩) (ts.length + 1) cap)) w') :
  wpList Tryz.prog ops Q (o :: rest) a (w.alloc (Obj.cells #[.string t] 9)) := by
 subst hg
 obtain ⟨i0, hi, hz0, hz1, hz2⟩ := info_parts infoTx
 have hz := hown.below.size
 refine wpList_append_lies _ hgd s x _ ho w0.heap.size 9 i0 _ 1 16 Tryz.underlying26 hi hz0 hz1 hz2 rfl (by decide) v ts.length (ts.map Value.string) hs (hown.own.alloc _) ⟨w.heap.size, 0, none⟩ 1 c [.string t] hx rfl (World.news_of_block (heap_alloc_new w _)) ?_ (by decide) (by unfold maxLen; omega) (by omega) (by have := (below_one w (Obj.cells #[.string t] 9)).size; omega) _ rfl ?_
 ·intro u' hu'
  rw [List.mem_singleton.1 hu']; rfl
 ·intro y cap w1 h1 h2 _ _
  exact h y cap w1 ⟨by simpa using h1, (hown.below.alloc hz _).grown h2 (by simp; omega) (fun k hk => (hown.own.lt k hk).1)⟩
theorem own_ne {w : World} {B q size n : Nat} {e t : TypeId} {v : Value} {xs : List Value} {a : Array Value} {fr : Nat × Nat} (h : w.ownsRow B e size v n xs) (hq : w.heap[q]? = some (Obj.cells a t fr)) (hne : t ≠ e) : v.ownBlock ≠ some q := by
 intro hv
 rcases h.2 with ⟨h1, _⟩ | ⟨g, cap, cur, h1, _, hg, _⟩
 ·rw [h1] at hv; cases hv
 ·rw [h1] at hv
  have : g = q := by injection hv
  subst this
  rw [hq] at hg
  injection hg with hg
  injection hg with _ h2 _
  exact hne h2
theorem heap_ltF {w : World} {q : Nat} {o : Obj} (h : w.heap[q]? = some o) : q < w.heap.size := (Array.getElem?_eq_some_iff.1 h).1
def TxAt (w : World) (x : Option Addr) (ts : List ByteArray) : Prop := ∀ k (h : k < ts.length), ∃ b off, x = some ⟨b, off, none⟩ ∧ b < w.heap.size ∧ w.cell? ⟨b, off + k, none⟩ = some (.string ts[k])
theorem TxAt.below {w w' : World} {x : Option Addr} {ts : List ByteArray} (h : TxAt w x ts) (hb : Below w.heap.size w w') : TxAt w' x ts := fun k hk => by
 obtain ⟨b, off, e, hl, hc⟩ := h k hk
 exact ⟨b, off, e, Nat.lt_of_lt_of_le hl hb.size, by rw [hb.cell (p := ⟨b, off + k, none⟩) hl]; exact hc⟩
theorem OwnX.texts {w0 w : World} {v : Value} {ts : List ByteArray} (h : OwnX w0 w v ts) : ∃ x c, v = .slice x ts.length c ∧ TxAt w x ts := by
 rcases h.own.2 with ⟨h1, h2⟩ | ⟨g, cap, cur, h1, _, hg, _⟩
 ·refine ⟨none, 0, by rw [h1, h2], fun k hk => ?_⟩
  omega
 ·refine ⟨_, _, h1, fun k hk => ⟨g, 0, rfl, (Array.getElem?_eq_some_iff.1 hg).1, ?_⟩⟩
  have hv := h.own
  rw [h1] at hv
  rw [Nat.zero_add, hv.cellAt k (by omega), List.getElem?_map, List.getElem?_eq_getElem hk]; rfl
end Go.Proofs.YtlcgfdijohgnpaaGreatDoor

namespace Go.Proofs.YtlcgfdijohgnpaaGreatDoor
open Go.ChangeShapes Go.WideShapes Go.ChangeAt Go.RowKit

theorem cell_blkT {W W' : World} {R : Nat} (h : W'.heap[R]? = W.heap[R]?) (j : Nat) : W'.cell? ⟨R, j, none⟩ = W.cell? ⟨R, j, none⟩ := by unfold World.cell?; rw [h]
theorem OwnX.tx {w0 w : World} {x : Option Addr} {n c : Nat} {ts : List ByteArray} (h : OwnX w0 w (.slice x n c) ts) : TxAt w x ts := by
 obtain ⟨x', c', e, ht⟩ := h.texts
 injection e with e1 _ _
 rw [e1]; exact ht
theorem TxAt.other {w w' : World} {x : Option Addr} {ts : List ByteArray} {q : Option Nat} (h : TxAt w x ts) (hg : w.grownBy w' q) (hne : ∀ b off, x = some ⟨b, off, none⟩ → q ≠ some b) : TxAt w' x ts := fun k hk => by
 obtain ⟨b, off, e, hl, hc⟩ := h k hk
 exact ⟨b, off, e, Nat.lt_of_lt_of_le hl hg.size, (cell_blkT (hg.block b hl (fun e' => hne b off e e'.symm)) (off + k)).trans hc⟩
theorem OwnX.new {w0 w : World} {x : Option Addr} {n c : Nat} {ts : List ByteArray} (h : OwnX w0 w (.slice x n c) ts) : ∀ b off, x = some ⟨b, off, none⟩ → w0.heap.size ≤ b ∧ b < w.heap.size := fun b off e => by
 subst e
 exact h.own.lt b rfl
theorem OwnX.form {w0 w : World} {x : Option Addr} {n c : Nat} {ts : List ByteArray} (h : OwnX w0 w (.slice x n c) ts) (hn : 0 < n) : ∃ g, x = some ⟨g, 0, none⟩ ∧ ts.length = n := by
 rcases h.own.2 with ⟨h1, h2⟩ | ⟨g, cap, cur, h1, _⟩
 ·injection h1 with _ h3 _
  omega
 ·injection h1 with h3 h4 _
  exact ⟨g, h3, h4.symm⟩
theorem OwnX.put {w0 w : World} {g n c : Nat} {ts : List ByteArray} (h : OwnX w0 w (.slice (some ⟨g, 0, none⟩) n c) ts) (hn : ts.length = n) (j : Nat) (hj : j < n) (u : ByteArray) :
  (∃ a, w.cell? ⟨g, j, none⟩ = some a) ∧ w.frozen? ⟨g, j, none⟩ = false ∧ OwnX w0 (w.setCell ⟨g, j, none⟩ (.string u)) (.slice (some ⟨g, 0, none⟩) n c) (ts.set j u) ∧ w.grownBy (w.setCell ⟨g, j, none⟩ (.string u)) (some g) := by
 subst hn
 have ho := h.own
 have hc := ho.cellAt j (by omega)
 obtain ⟨h1, h2⟩ := ho.stored j (.string u)
 refine ⟨⟨_, hc.trans (List.getElem?_eq_getElem (by simpa using hj))⟩, ho.frozenAt j, ⟨?_, h.below.setCell (p := ⟨g, j, none⟩) (h.new g 0 rfl).1 _⟩, h2⟩
 rw [List.length_set, List.map_set]
 exact h1
end Go.Proofs.YtlcgfdijohgnpaaGreatDoor

namespace Go.Proofs.YtlcgfdijohgnpaaGreatDoor
open Go.ChangeShapes Go.WideShapes Go.ChangeAt Go.RowKit

structure SetV where
 name : ByteArray
 val : Val
 from_ : Int
structure SetM where
 x : SetV
 a : Option Addr
 c : Nat
def sCells (m : SetM) : List Value := [.string m.x.name, .int .i64 m.x.val.kind, .int .i64 m.x.val.int, .string m.x.val.text, .slice m.a m.x.val.words.length m.c, .int .i64 m.x.from_]
def sFlat (ms : List SetM) : List Value := ms.flatMap sCells
theorem sFlat_len (ms : List SetM) : (sFlat ms).length = ms.length * 6 := by
 unfold sFlat
 induction ms with
 | nil => rfl
 | cons m r ih => rw [List.flatMap_cons, List.length_append, ih]; simp [sCells]; omega
theorem sFlat_app (a b : List SetM) : sFlat (a ++ b) = sFlat a ++ sFlat b := by unfold sFlat; rw [List.flatMap_append]
theorem sFlat_snoc (a : List SetM) (m : SetM) : sFlat (a ++ [m]) = sFlat a ++ sCells m := by rw [sFlat_app]; simp [sFlat]
theorem sCells_one (m : SetM) : ∀ v ∈ sCells m, v.oneCell' = true := by
 intro v hv
 unfold sCells at hv
 simp only [List.mem_cons, List.not_mem_nil, or_false] at hv
 rcases hv with rfl | rfl | rfl | rfl | rfl | rfl <;> rfl
theorem sFlat_at (l : List SetM) : ∀ k (h : k < l.length) j, j < 6 → (sFlat l)[k * 6 + j]? = (sCells l[k])[j]? := by
 induction l with
 | nil => intro k h; simp at h
 | cons m r ih =>
  intro k h j hj
  unfold sFlat
  rw [List.flatMap_cons]
  cases k with
  | zero =>
   rw [Nat.zero_mul, Nat.zero_add, List.getElem?_append_left (by simp [sCells]; omega)]
   rfl
  | succ k =>
   rw [List.getElem?_append_right (by simp [sCells]; omega)]
   have := ih k (by simpa using h) j hj
   simp only [List.getElem_cons_succ]
   rw [← this]
   unfold sFlat
   congr 1
   simp [sCells]
   omega
theorem infoSet : (Tryz.prog.info? 39).map (fun i => (i.zero, i.size, i.bytes)) = some (some (.agg #[.string ByteArray.empty, .int .i64 0, .int .i64 0, .string ByteArray.empty, .slice none 0 0, .int .i64 0]), 6, 80) := by kernel_rfl
def WdsAt (w : World) (m : SetM) (q : Option Nat) : Prop := TxAt w m.a m.x.val.words ∧ m.x.val.words.length ≤ m.c ∧ ∀ b off, 0 < m.x.val.words.length → m.a = some ⟨b, off, none⟩ → q ≠ some b
structure SetsAt (B : Nat) (w : World) (v : Value) (ms : List SetM) : Prop where
 row : w.ownsRow B 39 6 v ms.length (sFlat ms)
 wds : ∀ m ∈ ms, WdsAt w m v.ownBlock
section
variable {B B' : Nat} {w w' : World} {v v' : Value} {ms : List SetM} {m : SetM} {q : Option Nat}
theorem SetsAt.nil_ (B : Nat) (w : World) : SetsAt B w (.slice none 0 0) [] := ⟨World.ownsRow_nil _ _ _ _, fun m hm => by cases hm⟩
theorem WdsAt.below (h : WdsAt w m q) (hb : Below w.heap.size w w') : WdsAt w' m q := ⟨h.1.below hb, h.2.1, h.2.2⟩
theorem SetsAt.below (h : SetsAt B w v ms) (hb : Below w.heap.size w w') : SetsAt B w' v ms := ⟨rowBelow h.row hb, fun m hm => (h.wds m hm).below hb⟩
theorem WdsAt.grownTx (h : WdsAt w m q) (hg : w.grownBy w' q) : TxAt w' m.a m.x.val.words := by
 rcases Nat.eq_zero_or_pos m.x.val.words.length with h0 | h0
 ·intro k hk; omega
 ·exact h.1.other hg fun b off e => h.2.2 b off h0 e
theorem WdsAt.lt (h : WdsAt w m q) (hn : 0 < m.x.val.words.length) : ∃ b off, m.a = some ⟨b, off, none⟩ ∧ b < w.heap.size := by
 obtain ⟨b, off, e, hl, _⟩ := h.1 0 hn
 exact ⟨b, off, e, hl⟩
theorem SetsAt.push (h : SetsAt B w v ms) {n B2 : Nat} (hn : m.x.val.words.length = n) (hw : w.ownsRow B2 9 1 (.slice m.a n m.c) n (m.x.val.words.map Value.string)) (hr : w'.ownsRow B 39 6 v' (ms.length + 1) (sFlat ms ++ sCells m)) {o : Obj} (hg : (w.alloc o).grownBy w' v.ownBlock) (hi : ∀ g, v'.ownBlock = some g → v.ownBlock = some g ∨ w.heap.size ≤ g) : SetsAt B w' v' (ms ++ [m]) := by
 have hg2 := grownAlloc hg
 refine ⟨by rw [List.length_append, sFlat_snoc]; exact hr, fun m0 hm => ?_⟩
 rcases List.mem_append.1 hm with hm | hm
 ·have h0 := h.wds m0 hm
  refine ⟨h0.grownTx hg2, h0.2.1, fun b off hpos e hq => ?_⟩
  obtain ⟨b', off', e', hl⟩ := h0.lt hpos
  obtain ⟨rfl, rfl⟩ : b = b' ∧ off = off' := by simpa using e.symm.trans e'
  rcases hi b hq with h1 | h1
  ·exact h0.2.2 b off hpos e h1
  ·omega
 ·rw [List.mem_singleton.1 hm]
  have hw2 := rowGrown hw h.row (by decide) hg
  have hx : OwnX w w' (.slice m.a n m.c) m.x.val.words → TxAt w' m.a m.x.val.words := fun h => h.tx
  refine ⟨?_, ?_, fun b off hpos e hq => ?_⟩
  ·intro k hk
   rcases hw2.2 with ⟨h1, h2⟩ | ⟨g, cap, cur, h1, _, hgg, _⟩
   ·omega
   ·injection h1 with h1 _ _
    refine ⟨g, 0, h1, heap_lt hgg, ?_⟩
    have hv := hw2
    rw [h1] at hv
    rw [Nat.zero_add, hv.cellAt k (by omega), List.getElem?_map, List.getElem?_eq_getElem hk]; rfl
  ·rcases hw2.2 with ⟨h1, h2⟩ | ⟨g, cap, cur, h1, _, _, hnc, _⟩
   ·omega
   ·injection h1 with _ _ h3
    omega
  ·have := rowApart hw2 hr (by decide)
   rcases this with h1 | h1
   ·rw [e] at h1; simp [Value.ownBlock] at h1
   ·rw [e] at h1
    exact h1 (by rw [hq]; rfl)
theorem SetsAt.cells (h : SetsAt B w v ms) {k : Nat} (hk : k < ms.length) : ∃ b c, v = .slice (some ⟨b, 0, none⟩) ms.length c ∧ b < w.heap.size ∧ ∀ j, j < 6 → w.cell? ⟨b, k * 6 + j, none⟩ = (sCells ms[k])[j]? := by
 have hs := sFlat_len ms
 rcases h.row.2 with ⟨h1, h2⟩ | ⟨g, cap, cur, h1, _, hg, _⟩
 ·omega
 ·have hv := h.row
  rw [h1] at hv
  refine ⟨g, cap, h1, heap_lt hg, fun j hj => ?_⟩
  rw [hv.cellAt (k * 6 + j) (by omega), sFlat_at ms k hk j hj]
theorem SetsAt.form (h : SetsAt B w v ms) : ∃ x c, v = .slice x ms.length c := own_form h.row
end
theorem stepSt {ops : Array Oper} {o : Oper} {a : Act} {W : World} {K : Act → World → Prop} {Q : Exit → Act → World → Prop} {E : Prop} (hgd : o.guard = none) (sl x : Operand)
  (ho : o.op = .call { callee := .builtin .append, args := #[sl, x], argTypes := #[84, 84] }) {B n : Nat} {v : Value} {ms : List SetM} (hown : W.ownsRow B 39 6 v n (sFlat ms)) (hB : B ≤ W.heap.size) (hn : n ≤ 10000000000) (m : SetM) (hs : a.eval sl = v)
  {g c : Nat} (hx : a.eval x = .slice (some ⟨g, 0, none⟩) 1 c) (hk : ∀ j u, (sCells m)[j]? = some u → W.cell? ⟨g, j, none⟩ = some u)
  (h : ∀ y cap W2, W2.ownsRow B 39 6 (.slice (some ⟨y, 0, none⟩) (n + 1) cap) (n + 1) (sFlat ms ++ sCells m) → W.grownBy W2 v.ownBlock → (v.ownBlock = some y ∨ W.heap.size ≤ y) → K (a.put o.dst (.slice (some ⟨y, 0, none⟩) (n + 1) cap)) W2) :
  if Region.wanted o (yielded ops a.tmps) = true then Oper.wp Tryz.prog o a W K Q else E := by
 obtain ⟨i0, hi, hz0, hz1, hz2⟩ := info_parts infoSet
 refine step_append_lies _ hgd sl x _ ho B 39 i0 _ 6 80 Tryz.underlying84 hi hz0 hz1 hz2 rfl (by decide) v n (sFlat ms) hs hown ⟨g, 0, none⟩ 1 c (sCells m) hx rfl (fun j u hu => by rw [add_zero_at]; exact hk j u hu) (sCells_one m) (by decide) (by unfold maxLen; omega) (by omega) hB _ rfl ?_
 intro y cap W2 h1 h2 h3 _
 exact h y cap W2 h1 h2 (h3.imp id fun h3 => by rw [h3]; exact Nat.le_refl _)
def SObj (w : World) (X : Nat) (kv lv : Value) : Prop := ∃ fr, w.heap[X]? = some (Obj.cells #[kv, lv] 86 fr)
theorem SObj.below {w w' : World} {X : Nat} {kv lv : Value} (h : SObj w X kv lv) (hb : Below w.heap.size w w') : SObj w' X kv lv := by
 obtain ⟨fr, h⟩ := h
 exact ⟨fr, (hb.block X (heap_ltF h)).trans h⟩
theorem SObj.cells {w : World} {X : Nat} {kv lv : Value} (h : SObj w X kv lv) : w.cell? ⟨X, 0, none⟩ = some kv ∧ w.cell? ⟨X, 1, none⟩ = some lv := by
 obtain ⟨fr, h⟩ := h
 exact ⟨by rw [cell_of_row w X 0 _ _ _ h]; rfl, by rw [cell_of_row w X 1 _ _ _ h]; rfl⟩
def placeGo (s : ByteArray) : List ByteArray → Nat → Int
 | [], _ => -1
 | n :: r, k => if (n.toList == s.toList) = true then k else placeGo s r (k + 1)
def placeN (ns : List ByteArray) (s : ByteArray) : Int := placeGo s ns 0
def namesM (ms : List SetM) : List ByteArray := ms.map (·.x.name)
end Go.Proofs.YtlcgfdijohgnpaaGreatDoor
