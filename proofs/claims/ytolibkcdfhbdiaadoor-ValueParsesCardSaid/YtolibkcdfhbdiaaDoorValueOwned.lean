/-
  The walk of the law's 'owned': lists of words that came out are compared, marked, grown, and looked at.
-/
import Derived.Test.YtolibkcdfhbdiaaDoorValueLists
import Derived.Test.YtolibkcdfhbdiaaDoorValueRefWords
import Derived.Test.YtolibkcdfhbdiaaDoorMarks
import Derived.Test.YtolibkcdfhbdiaaDoorBytes
import Derived.Deep.RegionHeld3
import Derived.Deep.AppendLies
import Derived.IntWalk
namespace Go.Proofs.YtolibkcdfhbdiaaDoor
open Go.ChangeShapes Go.WideShapes Go.ChangeAt Go.RowKit

/-- The mark of an owner. -/
def markT (i : Nat) : ByteArray := ⟨#[109, 97, 114, 107, UInt8.ofNat i]⟩
def mkS (i : Nat) : List Value := [.string (markT i)]
theorem convMark (w : World) (k : Nat) (hk : k < 256) : (convert 55 9 (.slice (some ⟨w.heap.size, 0, none⟩) 1 1)).run Tryd.prog (w.alloc (Obj.cells #[.int .u8 (k : Int)] 5)).drew = .ok (.string ⟨#[UInt8.ofNat k]⟩) (w.alloc (Obj.cells #[.int .u8 (k : Int)] 5)).drew :=
  ofBytes 9 55 5 _ w.heap.size 1 1 [UInt8.ofNat k] rfl Tryd.underlying9 Tryd.underlying55 Tryd.underlying5 fun j hj => by
    obtain rfl : j = 0 := by simpa using hj
    have hb : (w.alloc (Obj.cells #[.int .u8 (k : Int)] 5)).drew.heap[w.heap.size]? = some (Obj.cells #[.int .u8 (k : Int)] 5 (0, 0)) := heap_alloc_new w _
    refine ⟨?_, by unfold World.frozen?; rw [hb]; rfl⟩
    rw [cell_of_row _ _ 0 _ _ _ hb]
    show some (Value.int .u8 (k : Int)) = some (b8 (UInt8.ofNat k))
    unfold b8
    rw [UInt8.toNat_ofNat_of_lt' hk]
theorem convMark2 (w : World) (k : Nat) (hk : k < 256) : (convert 55 9 (.slice (some ⟨w.heap.size, 0, none⟩) 1 1)).run Tryd.prog (w.alloc (Obj.cells #[.int .u8 (k : Int)] 5)) = .ok (.string ⟨#[UInt8.ofNat k]⟩) (w.alloc (Obj.cells #[.int .u8 (k : Int)] 5)) :=
  ofBytes 9 55 5 _ w.heap.size 1 1 [UInt8.ofNat k] rfl Tryd.underlying9 Tryd.underlying55 Tryd.underlying5 fun j hj => by
    obtain rfl : j = 0 := by simpa using hj
    have hb : (w.alloc (Obj.cells #[.int .u8 (k : Int)] 5)).heap[w.heap.size]? = some (Obj.cells #[.int .u8 (k : Int)] 5 (0, 0)) := heap_alloc_new w _
    refine ⟨?_, by unfold World.frozen?; rw [hb]; rfl⟩
    rw [cell_of_row _ _ 0 _ _ _ hb]
    show some (Value.int .u8 (k : Int)) = some (b8 (UInt8.ofNat k))
    unfold b8
    rw [UInt8.toNat_ofNat_of_lt' hk]
theorem below_one (w : World) (o : Obj) : Below w.heap.size w (w.alloc o) := (Below.refl _ w).alloc (Nat.le_refl _) o
theorem infoLst : (Tryd.prog.info? 23).map (fun i => (i.zero, i.size, i.bytes)) = some (some (.slice none 0 0), 1, 24) := by kernel_rfl
/-- A block with five lists in it. -/
def LB (w : World) (L : Nat) (V : Nat → Value) : Prop := ∃ cur, w.heap[L]? = some (Obj.cells cur 23 (0, 0)) ∧ ∀ k, k < 5 → cur[k]? = some (V k)
theorem LB.lt {w : World} {L : Nat} {V : Nat → Value} (h : LB w L V) : L < w.heap.size := by obtain ⟨_, h, _⟩ := h; exact heap_lt h
theorem LB.cell {w : World} {L : Nat} {V : Nat → Value} (h : LB w L V) {k : Nat} (hk : k < 5) : w.cell? ⟨L, k, none⟩ = some (V k) := by
  obtain ⟨cur, h, hc⟩ := h
  rw [cell_of_row w L k cur _ _ h]; exact hc k hk
theorem LB.below {w w' : World} {L : Nat} {V : Nat → Value} (h : LB w L V) (hb : Below w.heap.size w w') : LB w' L V := by
  have hl := h.lt
  obtain ⟨cur, h, hc⟩ := h
  exact ⟨cur, by rw [hb.block L hl]; exact h, hc⟩
/-- A list as a value. -/
def lv (X : Nat → Option Addr) (F : Nat → List ByteArray) (C : Nat → Nat) (k : Nat) : Value := .slice (X k) (F k).length (C k)
/-- The lists that came out, and as they should read. -/
structure Came (B : Nat) (w : World) (L W : Nat) (X : Nat → Option Addr) (C : Nat → Nat) (F : Nat → List ByteArray) (Y : Nat → Option Addr) (D : Nat → Nat) (col : Nat → Nat) : Prop where
  lb : LB w L (lv X F C)
  wb : LB w W (lv Y F D)
  own : ∀ k, k < 5 → OwnT B w (X k) (C k) (F k)
  col : ∀ k, k < 5 → ∀ g, X k = some ⟨g, 0, none⟩ → col g = k
  want : ∀ k, k < 5 → Txts w (Y k) (F k)
  len : ∀ k, k < 5 → (F k).length ≤ 16
  size : B ≤ w.heap.size
/-- The lists, as far as they are marked. -/
structure Mkd (B : Nat) (w0 w : World) (L : Nat) (X : Nat → Option Addr) (C : Nat → Nat) (F : Nat → List ByteArray) (col : Nat → Nat) (i j : Nat) : Prop where
  below : Below B w0 w
  lb : LB w L (lv X F C)
  ent : ∀ q, q < 5 → Ent w 9 1 mkS col q (lv X F C q) (if q < i then (F q).length else if q = i then j else 0)
theorem Mkd.below' {B : Nat} {w0 w w' : World} {L : Nat} {X : Nat → Option Addr} {C : Nat → Nat} {F : Nat → List ByteArray} {col : Nat → Nat} {i j : Nat} (h : Mkd B w0 w L X C F col i j) (hB : B ≤ w0.heap.size) (hb : Below w.heap.size w w') : Mkd B w0 w' L X C F col i j :=
  ⟨h.below.trans (hb.mono (Nat.le_trans hB h.below.size)), h.lb.below hb, fun q hq => (h.ent q hq).below hb⟩
theorem Mkd.next {B : Nat} {w0 w : World} {L : Nat} {X : Nat → Option Addr} {C : Nat → Nat} {F : Nat → List ByteArray} {col : Nat → Nat} {i : Nat} (h : Mkd B w0 w L X C F col i (F i).length) : Mkd B w0 w L X C F col (i + 1) 0 :=
  ⟨h.below, h.lb, fun q hq => by
    have := h.ent q hq
    by_cases h1 : q < i
    · rw [if_pos h1] at this; rw [if_pos (by omega)]; exact this
    · by_cases h2 : q = i
      · subst h2
        rw [if_neg (by omega), if_pos rfl] at this; rw [if_pos (by omega)]; exact this
      · rw [if_neg h1, if_neg h2] at this; rw [if_neg (by omega)]
        split <;> exact this⟩
theorem Came.start {B : Nat} {w w' : World} {L W : Nat} {X : Nat → Option Addr} {C : Nat → Nat} {F : Nat → List ByteArray} {Y : Nat → Option Addr} {D : Nat → Nat} {col : Nat → Nat} (h : Came B w L W X C F Y D col) (hb : Below w.heap.size w w') : Mkd B w w' L X C F col 0 0 :=
  ⟨hb.mono h.size, h.lb.below hb, fun q hq => by
    have e0 : (if q < 0 then (F q).length else if q = 0 then 0 else 0) = 0 := by rw [if_neg (by omega)]; split <;> rfl
    rw [e0]
    refine Ent.below ?_ hb
    unfold lv
    rcases h.own q hq with ⟨h1, h2, h3⟩ | ⟨g, h1, h2, h3, h4, h5⟩
    · exact .inl ⟨by rw [h1, h2, h3]; rfl, rfl⟩
    · have := h.len q hq
      exact .inr ⟨g, _, _, _, by rw [h1], h.col q hq g h1, h5, ⟨by omega, by unfold maxLen; omega, by simp [h3]⟩, fun j hj => by omega⟩⟩
/-- The next word is marked. -/
theorem Mkd.mark {B : Nat} {w0 w : World} {L : Nat} {X : Nat → Option Addr} {C : Nat → Nat} {F : Nat → List ByteArray} {col : Nat → Nat} {i j : Nat} (h : Mkd B w0 w L X C F col i j) (hB : B ≤ w0.heap.size) (hi : i < 5) (hj : j < (F i).length)
    (hX : ∀ g, X i = some ⟨g, 0, none⟩ → B ≤ g) : ∃ g, X i = some ⟨g, 0, none⟩ ∧ g < w.heap.size ∧ g ≠ L ∧ (w.cell? ⟨g, j, none⟩).isSome = true ∧ w.frozen? ⟨g, j, none⟩ = false ∧
      ∀ w', Below w.heap.size w w' → Mkd B w0 (w'.setCell ⟨g, j, none⟩ (.string (markT i))) L X C F col i (j + 1) := by
  have he := h.ent i hi
  rw [if_neg (by omega), if_pos rfl] at he
  have he2 := he
  rcases he2 with ⟨h1, h2⟩ | ⟨g, n, c, cur, h1, h2, h3, ⟨h4, h5, h6⟩, h7⟩
  · unfold lv at h1
    injection h1 with _ e _
    omega
  · unfold lv at h1
    injection h1 with e1 e2 e3
    subst e2 e3
    have hcell : (w.cell? ⟨g, j, none⟩).isSome = true := by rw [cell_of_row w g j cur _ _ h3]; simp; omega
    obtain ⟨lcur, hl, hlc⟩ := h.lb
    have hne : g ≠ L := by
      rintro rfl
      rw [h3] at hl
      injection hl with hl
      injection hl with _ hl _
      exact absurd hl (by decide)
    refine ⟨g, e1, heap_lt h3, hne, hcell, by simp [World.frozen?, h3], fun w' hb => ?_⟩
    have hM := h.below' hB hb
    refine ⟨hM.below.setCell (p := ⟨g, j, none⟩) (hX g e1) _, ⟨lcur, ?_, hlc⟩, fun q hq => ?_⟩
    · rw [Below.heap_setCell _ _ _ _ (Ne.symm hne), hb.block L (heap_lt hl)]; exact hl
    · by_cases h1 : q = i
      · subst h1
        have := hM.ent q hq
        rw [if_neg (by omega), if_pos rfl] at this ⊢
        unfold lv at this ⊢
        rw [e1] at this ⊢
        exact this.next hj rfl
      · have := hM.ent q hq
        have e0 : (if q < i then (F q).length else if q = i then j + 1 else 0) = (if q < i then (F q).length else if q = i then j else 0) := by rw [if_neg h1, if_neg h1]
        rw [e0]
        exact this.set (by rw [h2]; unfold mkS; rw [Nat.mod_one]; rfl)

theorem mark_add (k : Nat) : (⟨#[109, 97, 114, 107]⟩ : ByteArray) ++ ⟨#[UInt8.ofNat k]⟩ = markT k := rfl
/-- The lists grown so far. -/
structure Grw (B : Nat) (w0 w : World) (B2 L : Nat) (X : Nat → Option Addr) (C : Nat → Nat) (F : Nat → List ByteArray) (n : Nat) (al : Value) (vs : List Value) (col : Nat → Nat) : Prop where
  below : Below B w0 w
  b1 : B ≤ B2
  b2 : L < B2
  b3 : B2 ≤ w.heap.size
  lb : LB w L (lv X F C)
  all : w.ownsRow B2 23 1 al n vs
  ent : ∀ q, q < 5 → Ent w 9 1 mkS col q (lv X F C q) (F q).length
  ents : ∀ t v, vs[t]? = some v → ∃ x len c, v = .slice x len c ∧ len ≤ 64 ∧ Ent w 9 1 mkS col (t / 6) v len
/-- The one that is grown now. -/
def Now (B : Nat) (w : World) (col : Nat → Nat) (i j : Nat) (x : Option Addr) (len c : Nat) : Prop := len ≤ 16 + j ∧ Ent w 9 1 mkS col i (.slice x len c) len ∧ ∀ g, x = some ⟨g, 0, none⟩ → B ≤ g
section
variable {B B2 L n : Nat} {w0 w w' : World} {X : Nat → Option Addr} {C : Nat → Nat} {F : Nat → List ByteArray} {al : Value} {vs : List Value} {col : Nat → Nat}
theorem Mkd.grw (h : Mkd B w0 w L X C F col 5 0) (hB : B ≤ w0.heap.size) : Grw B w0 w w.heap.size L X C F 0 (.slice none 0 0) [] col :=
  ⟨h.below, Nat.le_trans hB h.below.size, h.lb.lt, Nat.le_refl _, h.lb, World.ownsRow_nil _ _ _ _, fun q hq => by have := h.ent q hq; rw [if_pos hq] at this; exact this, fun t v hv => by cases hv⟩
theorem Grw.now (h : Grw B w0 w B2 L X C F n al vs col) {i : Nat} (hi : i < 5) (hl : (F i).length ≤ 16) (hX : ∀ g, X i = some ⟨g, 0, none⟩ → B ≤ g) : Now B w col i 0 (X i) (F i).length (C i) := ⟨by omega, h.ent i hi, hX⟩
theorem Grw.push (h : Grw B w0 w B2 L X C F n al vs col) {i j : Nat} {x : Option Addr} {len c : Nat} (hx : Now B w col i j x len c) (hj : j ≤ 6) (hn : n / 6 = i) {o : Obj} (hg : (w.alloc o).grownBy w' al.ownBlock) {al' : Value} (ho : w'.ownsRow B2 23 1 al' (n + 1) (vs ++ [.slice x len c])) :
    Grw B w0 w' B2 L X C F (n + 1) al' (vs ++ [.slice x len c]) col ∧ Now B w' col i j x len c := by
  have hg' : w.grownBy w' al.ownBlock := ⟨hg.os, hg.tape, hg.output, Nat.le_trans (by simp) hg.size, fun k hk hne => (hg.block k (by simp; omega) hne).trans ((below_one w o).block k hk)⟩
  have hne : 23 ≠ 9 := by decide
  have hb : Below B2 w w' := (Below.refl B2 w).grown hg' h.b3 (fun k hk => (World.ownsRow.lt h.all k hk).1)
  have he : ∀ q v m, Ent w 9 1 mkS col q v m → Ent w' 9 1 mkS col q v m := fun q v m hv => hv.grown h.all hg' hne
  have hll := h.lb.lt
  refine ⟨⟨h.below.trans (hb.mono h.b1), h.b1, h.b2, Nat.le_trans h.b3 hg'.size, ?_, ho, fun q hq => he _ _ _ (h.ent q hq), fun t v hv => ?_⟩, hx.1, he _ _ _ hx.2.1, hx.2.2⟩
  · obtain ⟨cur, h1, h2⟩ := h.lb
    exact ⟨cur, by rw [hb.block L h.b2]; exact h1, h2⟩
  · have hlen : vs.length = n := by have := h.all.1; omega
    by_cases ht : t < n
    · rw [List.getElem?_append_left (by omega)] at hv
      obtain ⟨x1, l1, c1, e, hl, hh⟩ := h.ents t v hv
      exact ⟨x1, l1, c1, e, hl, he _ _ _ hh⟩
    · rw [List.getElem?_append_right (by omega), hlen] at hv
      have ht0 : t - n = 0 := by
        rcases Nat.eq_zero_or_pos (t - n) with h0 | h0
        · exact h0
        · rw [List.getElem?_eq_none (by simp; omega)] at hv; cases hv
      obtain rfl : t = n := by omega
      rw [Nat.sub_self] at hv
      obtain rfl : Value.slice x len c = v := by simpa using hv
      have := hx.1
      exact ⟨x, len, c, rfl, by omega, by rw [hn]; exact he _ _ _ hx.2.1⟩
theorem Grw.grow (h : Grw B w0 w B2 L X C F n al vs col) (hb : Below B w w') {col' : Nat → Nat} (he : ∀ q v m, Ent w 9 1 mkS col q v m → Ent w' 9 1 mkS col' q v m)
    (hh : ∀ (g : Nat) cs t2, t2 ≠ 9 → w.heap[g]? = some (Obj.cells cs t2 (0, 0)) → w'.heap[g]? = some (Obj.cells cs t2 (0, 0))) : Grw B w0 w' B2 L X C F n al vs col' := by
  have hne : 23 ≠ 9 := by decide
  refine ⟨h.below.trans hb, h.b1, h.b2, Nat.le_trans h.b3 hb.size, ?_, ?_, fun q hq => he _ _ _ (h.ent q hq), fun t v hv => ?_⟩
  · obtain ⟨cur, h1, h2⟩ := h.lb
    exact ⟨cur, hh _ _ _ hne h1, h2⟩
  · refine ⟨h.all.1, ?_⟩
    rcases h.all.2 with h1 | ⟨g, cap, cur, h1, h2, h3, h4⟩
    · exact .inl h1
    · exact .inr ⟨g, cap, cur, h1, h2, hh _ _ _ hne h3, h4⟩
  · obtain ⟨x1, l1, c1, e, hl, hh⟩ := h.ents t v hv
    exact ⟨x1, l1, c1, e, hl, he _ _ _ hh⟩
theorem Grw.below' (h : Grw B w0 w B2 L X C F n al vs col) (hB : B ≤ w0.heap.size) (hb : Below w.heap.size w w') : Grw B w0 w' B2 L X C F n al vs col :=
  h.grow (hb.mono (Nat.le_trans hB h.below.size)) (fun q v m hv => hv.below hb) (fun g cs t2 _ hg => by rw [hb.block g (heap_lt hg)]; exact hg)
theorem Now.below' {i j len c : Nat} {x : Option Addr} (h : Now B w col i j x len c) (hb : Below w.heap.size w w') : Now B w' col i j x len c := ⟨h.1, h.2.1.below hb, h.2.2⟩
end

/-- An append of a list to the lists. -/
theorem appendL {ops : Array Oper} {rest : List Oper} {o : Oper} {a : Act} {Q : Exit → Act → World → Prop} (hgd : o.guard = none) (s x : Operand)
    (ho : o.op = .call { callee := .builtin .append, args := #[s, x], argTypes := #[27, 27] }) {B n : Nat} {w : World} {v u : Value} {vs : List Value} (hown : w.ownsRow B 23 1 v n vs) (hB : B ≤ w.heap.size) (hn : n ≤ 1000000) (hu : u.oneCell' = true) (hs : a.eval s = v)
    {c : Nat} (hx : a.eval x = .slice (some ⟨w.heap.size, 0, none⟩) 1 c)
    (h : ∀ g cap w', w'.ownsRow B 23 1 (.slice (some ⟨g, 0, none⟩) (n + 1) cap) (n + 1) (vs ++ [u]) → (w.alloc (Obj.cells #[u] 23)).grownBy w' v.ownBlock → (v.ownBlock = some g ∨ w.heap.size ≤ g) → g < w'.heap.size → wpList Tryd.prog ops Q rest (a.put o.dst (.slice (some ⟨g, 0, none⟩) (n + 1) cap)) w') :
    wpList Tryd.prog ops Q (o :: rest) a (w.alloc (Obj.cells #[u] 23)) := by
  obtain ⟨i0, hi, hz0, hz1, hz2⟩ := info_parts infoLst
  refine wpList_append_lies _ hgd s x _ ho B 23 i0 (.slice none 0 0) 1 24 Tryd.underlying27 hi hz0 hz1 hz2 rfl (by decide) v n vs hs (hown.alloc _) ⟨w.heap.size, 0, none⟩ 1 c [u] hx rfl (World.news_of_block (heap_alloc_new w _)) ?_ (by decide) (by unfold maxLen; omega) (by omega) (Nat.le_trans hB (below_one w _).size) _ rfl ?_
  · intro u' hu'
    rw [List.mem_singleton.1 hu']; exact hu
  · intro g cap w1 h1 h2 h3 h4
    exact h g cap w1 h1 h2 (h3.imp id fun h3 => by rw [h3]; exact (below_one w _).size) h4
/-- An append of a mark. -/
theorem appendM {ops : Array Oper} {rest : List Oper} {o : Oper} {a : Act} {Q : Exit → Act → World → Prop} (hgd : o.guard = none) (s x : Operand)
    (ho : o.op = .call { callee := .builtin .append, args := #[s, x], argTypes := #[23, 23] }) {B i m len c : Nat} {w : World} {xa : Option Addr} {col : Nat → Nat} (hN : Now B w col i m xa len c) (hB : B ≤ w.heap.size) (hn : m ≤ 6) (hs : a.eval s = .slice xa len c)
    {c' G : Nat} (hG : w.heap.size = G) (hx : a.eval x = .slice (some ⟨G, 0, none⟩) 1 c')
    (h : ∀ x' l2 c2 w' col', Now B w' col' i (m + 1) x' l2 c2 → (∀ q v k, Ent w 9 1 mkS col q v k → Ent w' 9 1 mkS col' q v k) →
      (∀ (g : Nat) cs t2, t2 ≠ 9 → w.heap[g]? = some (Obj.cells cs t2 (0, 0)) → w'.heap[g]? = some (Obj.cells cs t2 (0, 0))) → Below B w w' → wpList Tryd.prog ops Q rest (a.put o.dst (.slice x' l2 c2)) w') :
    wpList Tryd.prog ops Q (o :: rest) a (w.alloc (Obj.cells #[.string (markT i)] 9)) := by
  subst hG
  obtain ⟨i0, hi, hz0, hz1, hz2⟩ := info_parts infoStr
  have hb := below_one w (Obj.cells #[.string (markT i)] 9)
  have hN' := hN.below' hb
  obtain ⟨xs, hown⟩ := hN'.2.1.owns hN'.2.2
  have hl := hN.1
  refine wpList_append_mark _ hgd s x _ ho B 9 i0 (.string ByteArray.empty) 1 16 Tryd.underlying23 hi hz0 hz1 hz2 rfl (by decide) _ len xs hs hown ⟨w.heap.size, 0, none⟩ c' mkS col i hx rfl (World.news_of_block (heap_alloc_new w _)) ?_ (by unfold maxLen; omega) (by omega) (Nat.le_trans hB hb.size) hN'.2.1 ?_
  · intro u hu
    rw [List.mem_singleton.1 hu]; rfl
  · intro x' c2 w' col' h1 h2 h3 h4 h5
    refine h x' (len + 1) c2 w' col' ⟨by omega, h2, fun g hg => (World.ownsRow.lt h1 g (by rw [hg]; rfl)).1⟩ (fun q v k hv => h3 q v k (hv.below hb)) (fun g cs t2 hne hg => h4 g cs t2 hne (by rw [hb.block g (heap_lt hg)]; exact hg)) ((hb.mono hB).trans h5)

set_option maxHeartbeats 3200000 in
set_option maxRecDepth 100000 in
theorem owned_any (B : Nat) (w : World) (L W cl cw : Nat) (X : Nat → Option Addr) (C : Nat → Nat) (F : Nat → List ByteArray) (Y : Nat → Option Addr) (D : Nat → Nat) (col : Nat → Nat) (h : Came B w L W X C F Y D col) :
    Calls Tryd.prog 15 #[.slice (some ⟨L, 0, none⟩) 5 cl, .slice (some ⟨W, 0, none⟩) 5 cw] w fun e w' => e = .returned (.bool true) ∧ Below B w w' := by
  have H := Lib.hid h
  have HOB : Hid (∀ k, k < 5 → ∀ g, X k = some ⟨g, 0, none⟩ → B ≤ g) := Lib.hid fun k hk g hg => by
    rcases h.own k hk with ⟨h1, _⟩ | ⟨g', h1, h2, _⟩
    · rw [h1] at hg; cases hg
    · rw [h1] at hg
      have : g' = g := by simpa using hg
      omega
  clear h
  go_enter Tryd.func15, Tryd.ntmps15
  go_wp2
  go_loopw [5, 6] (fun i _ wr => ∃ k : Nat, i = .int .i64 k ∧ k ≤ 5 ∧ Hid (Below w.heap.size w wr)) (fun i _ _ => 5 - (intOf i).toNat)
  case atStart => exact ⟨0, rfl, by omega, Lib.hid (Below.refl _ _)⟩
  case round =>
    obtain ⟨k, rfl, hk, HW⟩ := hrel
    by_cases hlt : k < 5
    · have c1 : wr.cell? ⟨L, k, none⟩ = some (.slice (X k) (F k).length (C k)) := (H.out.lb.below HW.out).cell hlt
      have c2 : wr.cell? ⟨W, k, none⟩ = some (.slice (Y k) (F k).length (D k)) := (H.out.wb.below HW.out).cell hlt
      have q1 : (0 : Int) ≤ k := by omega
      have q2 : (k : Int) < 5 := by omega
      have HX : Hid (Txts wr.drew (X k) (F k)) := Lib.hid (by
        have h1 : Txts w (X k) (F k) := by
          rcases H.out.own k hlt with ⟨h1, h2, _⟩ | ⟨g, h1, _, _, _, h5⟩
          · rw [h2]; exact Txts.nil_ _ _
          · rw [h1]; exact fun q hq => ⟨g, 0, rfl, heap_lt h5, by rw [Nat.zero_add, cell_of_row w g q _ _ _ h5]; simp [hq]⟩
        exact (h1.below HW.out).below (below_drewN wr 1))
      have HY : Hid (Txts wr.drew (Y k) (F k)) := Lib.hid (((H.out.want k hlt).below HW.out).below (below_drewN wr 1))
      have HL : Hid ((F k).length ≤ 4611686018427387904) := Lib.hid (by have := H.out.len k hlt; omega)
      go_wp2
      go_region_held3 (fun w' => w'.cell? ⟨L, k, none⟩ = some (.slice (X k) (F k).length (C k)) ∧ w'.cell? ⟨W, k, none⟩ = some (.slice (Y k) (F k).length (D k))) (first | exact ⟨c1, c2⟩ | exact ⟨z1, z2⟩)
        (first | (go_at_call 38; (with_reducible refine (sameL_any _ (X k) (Y k) (C k) (D k) (F k) (F k) HX.out HY.out HL.out).mono ?_); rintro e w2 ⟨rfl, hb2⟩; have hT : decide (F k = F k) = true := decide_eq_true rfl; rw [hT]; clear hT; have hbd := (below_drewN wr 1).trans (hb2.mono (Nat.le_refl _)); have HB2 := Lib.hid (HW.out.trans (hbd.mono HW.out.size)); have z1 : w2.cell? ⟨L, k, none⟩ = some (.slice (X k) (F k).length (C k)) := (hbd.cell (p := ⟨L, k, none⟩) (H.out.lb.below HW.out).lt).trans c1; have z2 : w2.cell? ⟨W, k, none⟩ = some (.slice (Y k) (F k).length (D k)) := (hbd.cell (p := ⟨W, k, none⟩) (H.out.wb.below HW.out).lt).trans c2; clear hb2 hbd))
      go_wp2
      go_roundw
      case rel => exact ⟨k + 1, by go_num, by omega, HB2⟩
      case measure => simp [intOf]; omega
    · have HM := Lib.hid (H.out.start HW.out)
      clear HW
      obtain ⟨w1, hw1⟩ : ∃ w1, w1 = wr := ⟨_, rfl⟩
      subst hw1
      go_wp2
      go_loopw [7, 8] (fun i _ wr => ∃ k : Nat, i = .int .i64 k ∧ k ≤ 5 ∧ Hid (Mkd B w wr L X C F col k 0)) (fun i _ _ => 5 - (intOf i).toNat)
      case atStart => exact ⟨0, rfl, by omega, HM⟩
      case round =>
        clear HM hlt hk
        obtain ⟨k, rfl, hk, HM⟩ := hrel
        by_cases hlt : k < 5
        · have q1 : (0 : Int) ≤ k := by omega
          have q2 : (k : Int) < 5 := by omega
          go_wp2
          go_loopw [8] (fun i wq => ∃ j : Nat, i = .int .i64 j ∧ j ≤ (F k).length ∧ Hid (Mkd B w wq L X C F col k j)) (fun i _ => (F k).length - (intOf i).toNat)
          case atStart => exact ⟨0, rfl, by omega, HM⟩
          case round =>
            clear HM
            obtain ⟨j, rfl, hj, HM⟩ := hrel
            have hlen := H.out.len k hlt
            have c1 : wr.cell? ⟨L, k, none⟩ = some (.slice (X k) (F k).length (C k)) := HM.out.lb.cell hlt
            have hLl := HM.out.lb.lt
            by_cases hjt : j < (F k).length
            · obtain ⟨g, hX, hg, hne, hc, hf, hM⟩ := HM.out.mark H.out.size hlt hjt (HOB.out k hlt)
              have HN := Lib.hid hM
              obtain ⟨cv, hcv0⟩ := Option.isSome_iff_exists.1 hc
              clear hM hc
              rw [hX] at c1
              obtain ⟨n, hn⟩ : ∃ n, (F k).length = n := ⟨_, rfl⟩
              rw [hn] at c1 hjt hlen
              have q3 : (0 : Int) ≤ j := by omega
              have q4 : (j : Int) < n := by omega
              have hw8 : IntKind.u8.wrap (k : Int) = k := IntWalk.u8_in _ (by omega)
              have hcv := convMark wr k (by omega)
              have hma := mark_add k
              have f1 : ∀ o, (wr.alloc o).drew.frozen? ⟨g, j, none⟩ = false := fun o => by
                rw [show (wr.alloc o).drew.frozen? ⟨g, j, none⟩ = (wr.alloc o).frozen? ⟨g, j, none⟩ from rfl, (below_one wr o).frozen (p := ⟨g, j, none⟩) hg]; exact hf
              have f2 : ∀ o, (wr.alloc o).drew.cell? ⟨g, j, none⟩ = some cv := fun o => by
                rw [show (wr.alloc o).drew.cell? ⟨g, j, none⟩ = (wr.alloc o).cell? ⟨g, j, none⟩ from rfl, (below_one wr o).cell (p := ⟨g, j, none⟩) hg]; exact hcv0
              have f3 : ∀ o, (wr.alloc o).drew.cell? ⟨L, k, none⟩ = some (.slice (some ⟨g, 0, none⟩) n (C k)) := fun o => by
                rw [show (wr.alloc o).drew.cell? ⟨L, k, none⟩ = (wr.alloc o).cell? ⟨L, k, none⟩ from rfl, (below_one wr o).cell (p := ⟨L, k, none⟩) hLl]; exact c1
              clear hX
              go_wp2
              go_region_law (fail)
              all_goals
                go_wp2
                go_roundw
                case rel => exact ⟨j + 1, by go_num, by omega, Lib.hid ((HN.out wr (Below.refl _ _)).below' H.out.size (below_one _ _).drew)⟩
                case measure => simp [intOf]; omega
            · have HN := Lib.hid (by have h := HM.out; rw [show j = (F k).length by omega] at h; exact h.next)
              obtain ⟨n, hn⟩ : ∃ n, (F k).length = n := ⟨_, rfl⟩
              rw [hn] at c1 hjt hlen
              clear HM
              go_wp2
              go_roundw
              case rel => exact ⟨k + 1, by go_num, by omega, HN⟩
              case measure => simp [intOf]; omega
        · have HG : Hid (∃ vs col', Grw B w wr wr.heap.size L X C F 0 (.slice none 0 0) vs col') := Lib.hid (by have h := HM.out; rw [show k = 5 by omega] at h; exact ⟨[], col, h.grw H.out.size⟩)
          clear HM
          obtain ⟨B2, hB2⟩ : ∃ B2, wr.heap.size = B2 := ⟨_, rfl⟩
          rw [hB2] at HG
          clear hB2
          obtain ⟨w1, hw1⟩ : ∃ w1, w1 = wr := ⟨_, rfl⟩
          subst hw1
          go_wp2
          go_loopw [9, 10, 11, 12] (fun a i _ _ wr => ∃ k : Nat, i = .int .i64 k ∧ k ≤ 5 ∧ Hid (∃ vs col', Grw B w wr B2 L X C F (6 * k) a vs col')) (fun _ i _ _ _ => 5 - (intOf i).toNat)
          case atStart => exact ⟨0, rfl, by omega, HG⟩
          case round =>
            clear HG hlt hk
            obtain ⟨k, rfl, hk, HG⟩ := hrel
            by_cases hlt : k < 5
            · have c1 : wr.cell? ⟨L, k, none⟩ = some (.slice (X k) (F k).length (C k)) := by
                obtain ⟨vs, col', h⟩ := HG.out
                exact h.lb.cell hlt
              have HN : Hid (∃ vs col', Grw B w wr B2 L X C F (6 * k + 0) _ vs col' ∧ Now B wr col' k 0 (X k) (F k).length (C k)) := Lib.hid (by
                obtain ⟨vs, col', h⟩ := HG.out
                exact ⟨vs, col', h, h.now hlt (H.out.len k hlt) (HOB.out k hlt)⟩)
              have q1 : (0 : Int) ≤ k := by omega
              have q2 : (k : Int) < 5 := by omega
              clear HG
              go_wp2
              go_loopw [9, 11, 12] (fun a x j wq => ∃ (m : Nat) (xa : Option Addr) (len c : Nat), j = .int .i64 m ∧ x = .slice xa len c ∧ m ≤ 6 ∧ Hid (∃ vs col', Grw B w wq B2 L X C F (6 * k + m) a vs col' ∧ Now B wq col' k m xa len c)) (fun _ _ j _ => 6 - (intOf j).toNat)
              case atStart => exact ⟨0, _, _, _, rfl, rfl, by omega, HN⟩
              case round =>
                clear HN
                rename_i al0 x0 j0
                obtain ⟨m, xa, len, c, rfl, rfl, hm, HN⟩ := hrel
                by_cases hmt : m < 6
                · obtain ⟨vs, col', hG, hN⟩ := HN.out
                  have HG := Lib.hid hG
                  have HNN := Lib.hid hN
                  have hw8 : IntKind.u8.wrap (k : Int) = k := IntWalk.u8_in _ (by omega)
                  have q3 : (0 : Int) ≤ m := by omega
                  have q4 : (m : Int) < 6 := by omega
                  clear hG hN HN c1
                  have hcv := fun W : World => convMark2 W k (by omega)
                  have hma := mark_add k
                  go_wp2_with (at_builtin; first
                    | (refine appendL rfl _ _ rfl HG.out.all HG.out.b3 (by omega) rfl rfl rfl ?_; intro g cap w1 hown hgrow _ _; have HG1 := Lib.hid (HG.out.push HNN.out hm (by omega) hgrow hown); clear hown hgrow)
                    | (go_loud (refine appendM rfl _ _ rfl (HG1.out.2.below' (below_one _ _)) (Nat.le_trans HG1.out.1.b1 (Nat.le_trans HG1.out.1.b3 (below_one _ _).size)) hm rfl (by simp) rfl ?_; intro x' l2 c2 w2 col2 hn2 he2 hh2 hb2; have HN2 : Hid (∃ vs col', Grw B w w2 B2 L X C F (6 * k + (m + 1)) _ vs col' ∧ Now B w2 col' k (m + 1) x' l2 c2) := Lib.hid ⟨_, _, (HG1.out.1.below' H.out.size (below_one _ _)).grow hb2 he2 hh2, hn2⟩; clear hn2 he2 hh2 hb2)))
                  go_roundw
                  case rel => exact ⟨m + 1, x', l2, c2, by go_num, rfl, by omega, HN2⟩
                  case measure => simp [intOf]; omega
                · have q4 : ¬ (m : Int) < 6 := by omega
                  go_wp2
                  go_roundw
                  case rel => exact ⟨k + 1, by go_num, by omega, Lib.hid (by
                    obtain ⟨vs, col', h1, _⟩ := HN.out
                    rw [show 6 * k + m = 6 * (k + 1) by omega] at h1
                    exact ⟨vs, col', h1⟩)⟩
                  case measure => simp [intOf]; omega
            · obtain ⟨vs, col', hG⟩ := HG.out
              rw [show 6 * k = 30 by omega] at hG
              have hG0 := hG.all
              obtain ⟨A, cap, hal, hA2, hAl⟩ := hG0.form (by decide)
              have HA : Hid (∀ t, t < 30 → ∃ x len c, wr.cell? ⟨A, t, none⟩ = some (.slice x len c) ∧ len ≤ 64 ∧ Ent wr 9 1 mkS col' (t / 6) (.slice x len c) len) := Lib.hid fun t ht => by
                have hlen : vs.length = 30 := by have := hG.all.1; omega
                obtain ⟨x, len, c, e, hl, he⟩ := hG.ents t vs[t] (List.getElem?_eq_getElem (by omega))
                have hc := World.ownsRow.cells hG.all (g := A) (by rw [hal]; rfl) t vs[t] (List.getElem?_eq_getElem (by omega))
                rw [add_zero_at] at hc
                exact ⟨x, len, c, by rw [hc, e], hl, by rw [← e]; exact he⟩
              have HB0 := Lib.hid hG.below
              have HBB := Lib.hid (Nat.le_trans hG.b1 hG.b3)
              clear HG hG hG0 hA2
              subst hal
              have q2 : ¬ (k : Int) < 5 := by omega
              obtain ⟨w2, hw2⟩ : ∃ w2, w2 = wr := ⟨_, rfl⟩
              subst hw2
              go_wp2
              go_loopw [13, 14] (fun i _ wr => ∃ t : Nat, i = .int .i64 t ∧ t ≤ 30 ∧ Hid (Below w2.heap.size w2 wr)) (fun i _ _ => 30 - (intOf i).toNat)
              case atStart => exact ⟨0, rfl, by omega, Lib.hid (Below.refl _ _)⟩
              case round =>
                obtain ⟨t, rfl, ht, HW⟩ := hrel
                by_cases htt : t < 30
                · obtain ⟨x, len, c, hc, hle, he⟩ := HA.out t htt
                  have c1 := (HW.out.cell (p := ⟨A, t, none⟩) hAl).trans hc
                  have HE := Lib.hid he
                  have HC := Lib.hid hc
                  have q5 : (0 : Int) ≤ t := by omega
                  have q6 : (t : Int) < 30 := by omega
                  clear hc he
                  go_wp2
                  go_loopw [14] (fun j wq => ∃ m : Nat, j = .int .i64 m ∧ m ≤ len ∧ Hid (Below w2.heap.size w2 wq)) (fun j _ => len - (intOf j).toNat)
                  case atStart => exact ⟨0, rfl, by omega, HW⟩
                  case round =>
                    clear HW c1
                    obtain ⟨m, rfl, hm, HW⟩ := hrel
                    by_cases hmt : m < len
                    · obtain ⟨g, rfl, hg, hc⟩ := HE.out.cell hmt (k' := m) rfl
                      obtain ⟨q, hq⟩ : ∃ q, t / 6 = q := ⟨_, rfl⟩
                      rw [hq] at hc
                      have hqi : (t : Int) / 6 = q := by omega
                      have hqt : (t : Int).tdiv 6 = q := by rw [Int.tdiv_eq_ediv_of_nonneg q5]; exact hqi
                      have hqw : IntKind.i64.wrap (q : Int) = q := IntWalk.i64_in _ (by omega)
                      have hw8 : IntKind.u8.wrap (q : Int) = q := IntWalk.u8_in _ (by omega)
                      have hc0 := (HA.out t htt)
                      have c1 : wr.cell? ⟨A, t, none⟩ = some (.slice (some ⟨g, 0, none⟩) len c) := (HW.out.cell (p := ⟨A, t, none⟩) hAl).trans HC.out
                      have c2 : wr.cell? ⟨g, m, none⟩ = some (.string (markT q)) := (HW.out.cell (p := ⟨g, m, none⟩) hg).trans hc
                      have f1 : ∀ o, (wr.alloc o).drew.cell? ⟨A, t, none⟩ = some (.slice (some ⟨g, 0, none⟩) len c) := fun o => by
                        rw [show (wr.alloc o).drew.cell? ⟨A, t, none⟩ = (wr.alloc o).cell? ⟨A, t, none⟩ from rfl, (below_one wr o).cell (p := ⟨A, t, none⟩) (Nat.lt_of_lt_of_le hAl HW.out.size)]; exact c1
                      have f2 : ∀ o, (wr.alloc o).drew.cell? ⟨g, m, none⟩ = some (.string (markT q)) := fun o => by
                        rw [show (wr.alloc o).drew.cell? ⟨g, m, none⟩ = (wr.alloc o).cell? ⟨g, m, none⟩ from rfl, (below_one wr o).cell (p := ⟨g, m, none⟩) (Nat.lt_of_lt_of_le hg HW.out.size)]; exact c2
                      have hcv := convMark wr q (by omega)
                      have hma := mark_add q
                      have q7 : (0 : Int) ≤ m := by omega
                      have q8 : (m : Int) < len := by omega
                      clear hc hc0 hq
                      go_wp2
                      go_region_law (fail)
                      all_goals
                        go_wp2
                        go_roundw
                        case rel => exact ⟨m + 1, by go_num, by omega, Lib.hid (HW.out.trans (((below_one _ _).drew).mono HW.out.size))⟩
                        case measure => simp [intOf]; omega
                    · have c1 : wr.cell? ⟨A, t, none⟩ = some (.slice x len c) := (HW.out.cell (p := ⟨A, t, none⟩) hAl).trans HC.out
                      have q8 : ¬ (m : Int) < len := by omega
                      go_wp2
                      go_roundw
                      case rel => exact ⟨t + 1, by go_num, by omega, HW⟩
                      case measure => simp [intOf]; omega
                · have q6 : ¬ (t : Int) < 30 := by omega
                  go_wp2
                  go_ret
                  exact ⟨rfl, HB0.out.trans (HW.out.mono HBB.out)⟩
end Go.Proofs.YtolibkcdfhbdiaaDoor
