/-
  TxOwned, RefsNames0.
-/
import Derived.Test.YtopghlnoklajkaaGreatDoorQTxKit
import Derived.Test.YtopghlnoklajkaaGreatDoorQMarks
import Derived.Test.YtopghlnoklajkaaGreatDoorQBytes
import Derived.Deep.RegionHeld3
import Derived.Deep.AppendLies
import Derived.IntWalk
import Derived.Test.YtopghlnoklajkaaGreatDoorQRefsNames
import Derived.Test.YtopghlnoklajkaaGreatDoorQRefsLaw0
namespace Go.Proofs.YtopghlnoklajkaaGreatDoor
open Go.ChangeShapes Go.WideShapes Go.ChangeAt Go.RowKit

/-- The mark of an owner. -/
def markR (i : Nat) : ByteArray := ⟨#[109, UInt8.ofNat i]⟩
def mkR (i : Nat) : List Value := [.string (markR i)]
theorem mark_addR (k : Nat) : (⟨#[109]⟩ : ByteArray) ++ ⟨#[UInt8.ofNat k]⟩ = markR k := rfl
theorem convMarkR (w : World) (k : Nat) (hk : k < 256) : (convert 30 9 (.slice (some ⟨w.heap.size, 0, none⟩) 1 1)).run Tryz.prog (w.alloc (Obj.cells #[.int .u8 (k : Int)] 5)).drew = .ok (.string ⟨#[UInt8.ofNat k]⟩) (w.alloc (Obj.cells #[.int .u8 (k : Int)] 5)).drew :=
  ofBytes 9 30 5 _ w.heap.size 1 1 [UInt8.ofNat k] rfl Tryz.underlying9 Tryz.underlying30 Tryz.underlying5 fun j hj => by
    obtain rfl : j = 0 := by simpa using hj
    have hb : (w.alloc (Obj.cells #[.int .u8 (k : Int)] 5)).drew.heap[w.heap.size]? = some (Obj.cells #[.int .u8 (k : Int)] 5 (0, 0)) := heap_alloc_new w _
    refine ⟨?_, by unfold World.frozen?; rw [hb]; rfl⟩
    rw [cell_of_row _ _ 0 _ _ _ hb]
    show some (Value.int .u8 (k : Int)) = some (b8 (UInt8.ofNat k))
    unfold b8
    rw [UInt8.toNat_ofNat_of_lt' hk]
theorem convMarkR2 (w : World) (k : Nat) (hk : k < 256) : (convert 30 9 (.slice (some ⟨w.heap.size, 0, none⟩) 1 1)).run Tryz.prog (w.alloc (Obj.cells #[.int .u8 (k : Int)] 5)) = .ok (.string ⟨#[UInt8.ofNat k]⟩) (w.alloc (Obj.cells #[.int .u8 (k : Int)] 5)) :=
  ofBytes 9 30 5 _ w.heap.size 1 1 [UInt8.ofNat k] rfl Tryz.underlying9 Tryz.underlying30 Tryz.underlying5 fun j hj => by
    obtain rfl : j = 0 := by simpa using hj
    have hb : (w.alloc (Obj.cells #[.int .u8 (k : Int)] 5)).heap[w.heap.size]? = some (Obj.cells #[.int .u8 (k : Int)] 5 (0, 0)) := heap_alloc_new w _
    refine ⟨?_, by unfold World.frozen?; rw [hb]; rfl⟩
    rw [cell_of_row _ _ 0 _ _ _ hb]
    show some (Value.int .u8 (k : Int)) = some (b8 (UInt8.ofNat k))
    unfold b8
    rw [UInt8.toNat_ofNat_of_lt' hk]
theorem infoLstR : (Tryz.prog.info? 24).map (fun i => (i.zero, i.size, i.bytes)) = some (some (.slice none 0 0), 1, 24) := by kernel_rfl
/-- A block with lists in it. -/
def LBR (N : Nat) (w : World) (L : Nat) (V : Nat → Value) : Prop := ∃ cur, w.heap[L]? = some (Obj.cells cur 24 (0, 0)) ∧ ∀ k, k < N → cur[k]? = some (V k)
theorem LBR.lt {N : Nat} {w : World} {L : Nat} {V : Nat → Value} (h : LBR N w L V) : L < w.heap.size := by obtain ⟨_, h, _⟩ := h; exact heap_lt h
theorem LBR.cell {N : Nat} {w : World} {L : Nat} {V : Nat → Value} (h : LBR N w L V) {k : Nat} (hk : k < N) : w.cell? ⟨L, k, none⟩ = some (V k) := by
  obtain ⟨cur, h, hc⟩ := h
  rw [cell_of_row w L k cur _ _ h]; exact hc k hk
theorem LBR.below {N : Nat} {w w' : World} {L : Nat} {V : Nat → Value} (h : LBR N w L V) (hb : Below w.heap.size w w') : LBR N w' L V := by
  have hl := h.lt
  obtain ⟨cur, h, hc⟩ := h
  exact ⟨cur, by rw [hb.block L hl]; exact h, hc⟩
/-- A list as a value. -/
def lvR (X : Nat → Option Addr) (F : Nat → List ByteArray) (C : Nat → Nat) (k : Nat) : Value := .slice (X k) (F k).length (C k)
/-- The lists that came out, and as they should read. -/
structure CameR (N B : Nat) (w : World) (L : Nat) (X : Nat → Option Addr) (C : Nat → Nat) (F : Nat → List ByteArray) (col : Nat → Nat) : Prop where
  lb : LBR N w L (lvR X F C)
  own : ∀ k, k < N → w.ownsRow B 9 1 (lvR X F C k) (F k).length ((F k).map Value.string)
  col : ∀ k, k < N → ∀ g, X k = some ⟨g, 0, none⟩ → col g = k
  len : ∀ k, k < N → (F k).length ≤ 4294967296
  size : B ≤ w.heap.size
theorem tx_of_own {w : World} {B n : Nat} {v : Value} {ls : List ByteArray} (h : w.ownsRow B 9 1 v n (ls.map Value.string)) (hn : ls.length = n) : ∃ x c, v = .slice x n c ∧ TxAt w x ls := by
  rcases h.2 with ⟨h1, h2⟩ | ⟨g, cap, cur, h1, _, hg, _⟩
  · refine ⟨none, 0, by rw [h1, h2], fun k hk => absurd hk (by omega)⟩
  · refine ⟨_, _, h1, fun k hk => ⟨g, 0, rfl, heap_lt hg, ?_⟩⟩
    have := World.ownsRow.cells h (g := g) (by rw [h1]; rfl) k (.string ls[k]) (by rw [List.getElem?_map, List.getElem?_eq_getElem hk]; rfl)
    rw [add_at] at this
    exact this
theorem CameR.lns {N B : Nat} {w : World} {L : Nat} {X : Nat → Option Addr} {C : Nat → Nat} {F : Nat → List ByteArray} {col : Nat → Nat} (h : CameR N B w L X C F col) {k : Nat} (hk : k < N) : TxAt w (X k) (F k) := by
  obtain ⟨x, c, e, hl⟩ := tx_of_own (h.own k hk) rfl
  unfold lvR at e
  injection e with e1 _ _
  rw [e1]; exact hl
/-- The lists, as far as they are marked. -/
structure MkdR (N B : Nat) (w0 w : World) (L : Nat) (X : Nat → Option Addr) (C : Nat → Nat) (F : Nat → List ByteArray) (col : Nat → Nat) (i j : Nat) : Prop where
  below : Below B w0 w
  lb : LBR N w L (lvR X F C)
  ent : ∀ q, q < N → Ent w 9 1 mkR col q (lvR X F C q) (if q < i then (F q).length else if q = i then j else 0)
theorem MkdR.below' {N B : Nat} {w0 w w' : World} {L : Nat} {X : Nat → Option Addr} {C : Nat → Nat} {F : Nat → List ByteArray} {col : Nat → Nat} {i j : Nat} (h : MkdR N B w0 w L X C F col i j) (hB : B ≤ w0.heap.size) (hb : Below w.heap.size w w') : MkdR N B w0 w' L X C F col i j :=
  ⟨h.below.trans (hb.mono (Nat.le_trans hB h.below.size)), h.lb.below hb, fun q hq => (h.ent q hq).below hb⟩
theorem MkdR.next {N B : Nat} {w0 w : World} {L : Nat} {X : Nat → Option Addr} {C : Nat → Nat} {F : Nat → List ByteArray} {col : Nat → Nat} {i : Nat} (h : MkdR N B w0 w L X C F col i (F i).length) : MkdR N B w0 w L X C F col (i + 1) 0 :=
  ⟨h.below, h.lb, fun q hq => by
    have := h.ent q hq
    by_cases h1 : q < i
    · rw [if_pos h1] at this; rw [if_pos (by omega)]; exact this
    · by_cases h2 : q = i
      · subst h2
        rw [if_neg (by omega), if_pos rfl] at this; rw [if_pos (by omega)]; exact this
      · rw [if_neg h1, if_neg h2] at this; rw [if_neg (by omega)]
        split <;> exact this⟩
theorem CameR.start {N B : Nat} {w w' : World} {L : Nat} {X : Nat → Option Addr} {C : Nat → Nat} {F : Nat → List ByteArray} {col : Nat → Nat} (h : CameR N B w L X C F col) (hb : Below w.heap.size w w') : MkdR N B w w' L X C F col 0 0 :=
  ⟨hb.mono h.size, h.lb.below hb, fun q hq => by
    have e0 : (if q < 0 then (F q).length else if q = 0 then 0 else 0) = 0 := by rw [if_neg (by omega)]; split <;> rfl
    rw [e0]
    refine Ent.below ?_ hb
    rcases (h.own q hq).2 with ⟨h1, h2⟩ | ⟨g, cap, cur, h1, h2, h3, h4, h5, h6, _⟩
    · exact .inl ⟨h1, rfl⟩
    · refine .inr ⟨g, _, _, _, h1, h.col q hq g ?_, h3, ⟨h4, h5, h6⟩, fun j hj => by omega⟩
      unfold lvR at h1
      injection h1⟩
/-- The next text is marked. -/
theorem MkdR.mark {N B : Nat} {w0 w : World} {L : Nat} {X : Nat → Option Addr} {C : Nat → Nat} {F : Nat → List ByteArray} {col : Nat → Nat} {i j : Nat} (h : MkdR N B w0 w L X C F col i j) (hi : i < N) (hj : j < (F i).length)
    (hX : ∀ g, X i = some ⟨g, 0, none⟩ → B ≤ g) : ∃ g a, X i = some ⟨g, 0, none⟩ ∧ w.cell? ⟨g, j, none⟩ = some a ∧ w.frozen? ⟨g, j, none⟩ = false ∧ MkdR N B w0 (w.setCell ⟨g, j, none⟩ (.string (markR i))) L X C F col i (j + 1) := by
  have he := h.ent i hi
  rw [if_neg (by omega), if_pos rfl] at he
  have he2 := he
  rcases he2 with ⟨h1, h2⟩ | ⟨g, n, c, cur, h1, h2, h3, ⟨h4, h5, h6⟩, h7⟩
  · unfold lvR at h1
    injection h1 with _ e _
    omega
  · unfold lvR at h1
    injection h1 with e1 e2 e3
    subst e2 e3
    have hcell : w.cell? ⟨g, j, none⟩ = some cur[j] := by rw [cell_of_row w g j cur _ _ h3]; exact Array.getElem?_eq_getElem (by omega)
    obtain ⟨lcur, hl, hlc⟩ := h.lb
    have hne : L ≠ g := by
      rintro rfl
      rw [h3] at hl
      injection hl with hl
      injection hl with _ hl _
      exact absurd hl (by decide)
    refine ⟨g, _, e1, hcell, by simp [World.frozen?, h3], ⟨h.below.setCell (p := ⟨g, j, none⟩) (hX g e1) _, ⟨lcur, ?_, hlc⟩, fun q hq => ?_⟩⟩
    · rw [Below.heap_setCell _ _ _ _ hne]; exact hl
    · have hm : (mkR (col g))[j % 1]? = some (.string (markR i)) := by rw [h2, Nat.mod_one]; rfl
      by_cases h1 : q = i
      · subst h1
        have := h.ent q hq
        rw [if_neg (by omega), if_pos rfl] at this ⊢
        unfold lvR at this ⊢
        rw [e1] at this ⊢
        exact this.next hj rfl
      · have := h.ent q hq
        have e0 : (if q < i then (F q).length else if q = i then j + 1 else 0) = (if q < i then (F q).length else if q = i then j else 0) := by rw [if_neg h1, if_neg h1]
        rw [e0]
        exact this.set hm
/-- The lists grown so far. -/
structure GrwR (N B : Nat) (w0 w : World) (B2 L : Nat) (X : Nat → Option Addr) (C : Nat → Nat) (F : Nat → List ByteArray) (n : Nat) (al : Value) (vs : List Value) (col : Nat → Nat) : Prop where
  below : Below B w0 w
  b1 : B ≤ B2
  b2 : L < B2
  b3 : B2 ≤ w.heap.size
  lb : LBR N w L (lvR X F C)
  all : w.ownsRow B2 24 1 al n vs
  ent : ∀ q, q < N → Ent w 9 1 mkR col q (lvR X F C q) (F q).length
  ents : ∀ t v, vs[t]? = some v → ∃ x len c, v = .slice x len c ∧ len ≤ 4294967300 ∧ Ent w 9 1 mkR col (t / 4) v len
/-- The one that is grown now. -/
def NowR (B : Nat) (w : World) (col : Nat → Nat) (i j : Nat) (x : Option Addr) (len c : Nat) : Prop := len ≤ 4294967296 + j ∧ Ent w 9 1 mkR col i (.slice x len c) len ∧ ∀ g, x = some ⟨g, 0, none⟩ → B ≤ g
section
variable {N B B2 L n : Nat} {w0 w w' : World} {X : Nat → Option Addr} {C : Nat → Nat} {F : Nat → List ByteArray} {al : Value} {vs : List Value} {col : Nat → Nat}
theorem MkdR.grw (h : MkdR N B w0 w L X C F col N 0) (hB : B ≤ w0.heap.size) : GrwR N B w0 w w.heap.size L X C F 0 (.slice none 0 0) [] col :=
  ⟨h.below, Nat.le_trans hB h.below.size, h.lb.lt, Nat.le_refl _, h.lb, World.ownsRow_nil _ _ _ _, fun q hq => by have := h.ent q hq; rw [if_pos hq] at this; exact this, fun t v hv => by cases hv⟩
theorem GrwR.now (h : GrwR N B w0 w B2 L X C F n al vs col) {i : Nat} (hi : i < N) (hl : (F i).length ≤ 4294967296) (hX : ∀ g, X i = some ⟨g, 0, none⟩ → B ≤ g) : NowR B w col i 0 (X i) (F i).length (C i) := ⟨by omega, h.ent i hi, hX⟩
theorem GrwR.push (h : GrwR N B w0 w B2 L X C F n al vs col) {i j : Nat} {x : Option Addr} {len c : Nat} (hx : NowR B w col i j x len c) (hj : j ≤ 4) (hn : n / 4 = i) {o : Obj} (hg : (w.alloc o).grownBy w' al.ownBlock) {al' : Value} (ho : w'.ownsRow B2 24 1 al' (n + 1) (vs ++ [.slice x len c])) :
    GrwR N B w0 w' B2 L X C F (n + 1) al' (vs ++ [.slice x len c]) col ∧ NowR B w' col i j x len c := by
  have hg' : w.grownBy w' al.ownBlock := ⟨hg.os, hg.tape, hg.output, Nat.le_trans (by simp) hg.size, fun k hk hne => (hg.block k (by simp; omega) hne).trans ((below_one w o).block k hk)⟩
  have hne : 24 ≠ 9 := by decide
  have hb : Below B2 w w' := (Below.refl B2 w).grown hg' h.b3 (fun k hk => (World.ownsRow.lt h.all k hk).1)
  have he : ∀ q v m, Ent w 9 1 mkR col q v m → Ent w' 9 1 mkR col q v m := fun q v m hv => hv.grown h.all hg' hne
  have hll := h.lb.lt
  refine ⟨⟨h.below.trans (hb.mono h.b1), h.b1, h.b2, Nat.le_trans h.b3 hg'.size, ?_, ho, fun q hq => he _ _ _ (h.ent q hq), fun t v hv => ?_⟩, hx.1, he _ _ _ hx.2.1, hx.2.2⟩
  · obtain ⟨cur, h1, h2⟩ := h.lb
    exact ⟨cur, by rw [hb.block L h.b2]; exact h1, h2⟩
  · have hlen : vs.length = n := by have := h.all.1; omega
    by_cases ht : t < n
    · rw [List.getElem?_append_left (by omega)] at hv
      obtain ⟨x1, l1, c1, e, hl, hh⟩ := h.ents t v hv
      exact ⟨x1, l1, c1, e, hl, he _ _ _ hh⟩
    · rw [List.getElem?_append_right (by omega), hlen] at hv
      have ht0 : t - n = 0 := by
        rcases Nat.eq_zero_or_pos (t - n) with h0 | h0
        · exact h0
        · rw [List.getElem?_eq_none (by simp; omega)] at hv; cases hv
      obtain rfl : t = n := by omega
      rw [Nat.sub_self] at hv
      obtain rfl : Value.slice x len c = v := by simpa using hv
      have := hx.1
      exact ⟨x, len, c, rfl, by omega, by rw [hn]; exact he _ _ _ hx.2.1⟩
theorem GrwR.grow (h : GrwR N B w0 w B2 L X C F n al vs col) (hb : Below B w w') {col' : Nat → Nat} (he : ∀ q v m, Ent w 9 1 mkR col q v m → Ent w' 9 1 mkR col' q v m)
    (hh : ∀ (g : Nat) cs t2, t2 ≠ 9 → w.heap[g]? = some (Obj.cells cs t2 (0, 0)) → w'.heap[g]? = some (Obj.cells cs t2 (0, 0))) : GrwR N B w0 w' B2 L X C F n al vs col' := by
  have hne : 24 ≠ 9 := by decide
  refine ⟨h.below.trans hb, h.b1, h.b2, Nat.le_trans h.b3 hb.size, ?_, ?_, fun q hq => he _ _ _ (h.ent q hq), fun t v hv => ?_⟩
  · obtain ⟨cur, h1, h2⟩ := h.lb
    exact ⟨cur, hh _ _ _ hne h1, h2⟩
  · refine ⟨h.all.1, ?_⟩
    rcases h.all.2 with h1 | ⟨g, cap, cur, h1, h2, h3, h4⟩
    · exact .inl h1
    · exact .inr ⟨g, cap, cur, h1, h2, hh _ _ _ hne h3, h4⟩
  · obtain ⟨x1, l1, c1, e, hl, hh⟩ := h.ents t v hv
    exact ⟨x1, l1, c1, e, hl, he _ _ _ hh⟩
theorem GrwR.below' (h : GrwR N B w0 w B2 L X C F n al vs col) (hB : B ≤ w0.heap.size) (hb : Below w.heap.size w w') : GrwR N B w0 w' B2 L X C F n al vs col :=
  h.grow (hb.mono (Nat.le_trans hB h.below.size)) (fun q v m hv => hv.below hb) (fun g cs t2 _ hg => by rw [hb.block g (heap_lt hg)]; exact hg)
theorem NowR.below' {i j len c : Nat} {x : Option Addr} (h : NowR B w col i j x len c) (hb : Below w.heap.size w w') : NowR B w' col i j x len c := ⟨h.1, h.2.1.below hb, h.2.2⟩
theorem row_formR {e : TypeId} (h : w.ownsRow B e 1 al n vs) (hn : 0 < n) : ∃ A cap, al = .slice (some ⟨A, 0, none⟩) n cap ∧ A < w.heap.size ∧ ∀ t v, vs[t]? = some v → w.cell? ⟨A, t, none⟩ = some v := by
  rcases h.2 with ⟨_, h2⟩ | ⟨g, cap, cur, h1, _, hg, _⟩
  · omega
  · refine ⟨g, cap, h1, heap_lt hg, fun t v hv => ?_⟩
    have := World.ownsRow.cells h (g := g) (by rw [h1]; rfl) t v hv
    rw [add_zero_at] at this
    exact this
end

/-- An append of a list to the lists. -/
theorem appendLR {ops : Array Oper} {rest : List Oper} {o : Oper} {a : Act} {Q : Exit → Act → World → Prop} (hgd : o.guard = none) (s x : Operand)
    (ho : o.op = .call { callee := .builtin .append, args := #[s, x], argTypes := #[25, 25] }) {B n : Nat} {w : World} {v u : Value} {vs : List Value} (hown : w.ownsRow B 24 1 v n vs) (hB : B ≤ w.heap.size) (hn : n ≤ 1000000) (hu : u.oneCell' = true) (hs : a.eval s = v)
    {c : Nat} (hx : a.eval x = .slice (some ⟨w.heap.size, 0, none⟩) 1 c)
    (h : ∀ g cap w', w'.ownsRow B 24 1 (.slice (some ⟨g, 0, none⟩) (n + 1) cap) (n + 1) (vs ++ [u]) → (w.alloc (Obj.cells #[u] 24)).grownBy w' v.ownBlock → wpList Tryz.prog ops Q rest (a.put o.dst (.slice (some ⟨g, 0, none⟩) (n + 1) cap)) w') :
    wpList Tryz.prog ops Q (o :: rest) a (w.alloc (Obj.cells #[u] 24)) := by
  obtain ⟨i0, hi, hz0, hz1, hz2⟩ := info_parts infoLstR
  refine wpList_append_lies _ hgd s x _ ho B 24 i0 (.slice none 0 0) 1 24 Tryz.underlying25 hi hz0 hz1 hz2 rfl (by decide) v n vs hs (hown.alloc _) ⟨w.heap.size, 0, none⟩ 1 c [u] hx rfl (World.news_of_block (heap_alloc_new w _)) ?_ (by decide) (by unfold maxLen; omega) (by omega) (Nat.le_trans hB (below_one w _).size) _ rfl ?_
  · intro u' hu'
    rw [List.mem_singleton.1 hu']; exact hu
  · intro g cap w1 h1 h2 _ _
    exact h g cap w1 h1 h2
/-- An append of a mark. -/
theorem appendMR {ops : Array Oper} {rest : List Oper} {o : Oper} {a : Act} {Q : Exit → Act → World → Prop} (hgd : o.guard = none) (s x : Operand)
    (ho : o.op = .call { callee := .builtin .append, args := #[s, x], argTypes := #[24, 24] }) {B i m len c : Nat} {w : World} {xa : Option Addr} {col : Nat → Nat} (hN : NowR B w col i m xa len c) (hB : B ≤ w.heap.size) (hn : m ≤ 4) (hs : a.eval s = .slice xa len c)
    {c' G : Nat} (hG : w.heap.size = G) (hx : a.eval x = .slice (some ⟨G, 0, none⟩) 1 c')
    (h : ∀ x' l2 c2 w' col', NowR B w' col' i (m + 1) x' l2 c2 → (∀ q v k, Ent w 9 1 mkR col q v k → Ent w' 9 1 mkR col' q v k) →
      (∀ (g : Nat) cs t2, t2 ≠ 9 → w.heap[g]? = some (Obj.cells cs t2 (0, 0)) → w'.heap[g]? = some (Obj.cells cs t2 (0, 0))) → Below B w w' → wpList Tryz.prog ops Q rest (a.put o.dst (.slice x' l2 c2)) w') :
    wpList Tryz.prog ops Q (o :: rest) a (w.alloc (Obj.cells #[.string (markR i)] 9)) := by
  subst hG
  obtain ⟨i0, hi, hz0, hz1, hz2⟩ := info_parts infoTx
  have hb := below_one w (Obj.cells #[.string (markR i)] 9)
  have hN' := hN.below' hb
  obtain ⟨xs, hown⟩ := hN'.2.1.owns hN'.2.2
  have hl := hN.1
  refine wpList_append_mark _ hgd s x _ ho B 9 i0 _ 1 16 Tryz.underlying24 hi hz0 hz1 hz2 rfl (by decide) _ len xs hs hown ⟨w.heap.size, 0, none⟩ c' mkR col i hx rfl (World.news_of_block (heap_alloc_new w _)) ?_ (by unfold maxLen; omega) (by omega) (Nat.le_trans hB hb.size) hN'.2.1 ?_
  · intro u hu
    rw [List.mem_singleton.1 hu]; rfl
  · intro x' c2 w' col' h1 h2 h3 h4 h5
    refine h x' (len + 1) c2 w' col' ⟨by omega, h2, fun g hg => (World.ownsRow.lt h1 g (by rw [hg]; rfl)).1⟩ (fun q v k hv => h3 q v k (hv.below hb)) (fun g cs t2 hne hg => h4 g cs t2 hne (by rw [hb.block g (heap_lt hg)]; exact hg)) ((hb.mono hB).trans h5)

theorem grown_of_belowR {w w' : World} (h : Below w.heap.size w w') (row : Option Nat) : w.grownBy w' row := ⟨h.os, h.tape, h.output, h.size, fun k hk _ => h.block k hk⟩
theorem own_lessGR {w : World} {B B' : Nat} {e : TypeId} {size n : Nat} {v : Value} {xs : List Value} (h : w.ownsRow B' e size v n xs) (hB : B ≤ B') : w.ownsRow B e size v n xs := by
  refine ⟨h.1, ?_⟩
  rcases h.2 with h2 | ⟨g, cap, cur, h1, h2, h3⟩
  · exact .inl h2
  · exact .inr ⟨g, cap, cur, h1, Nat.le_trans hB h2, h3⟩
def updR {α : Type} (f : Nat → α) (k : Nat) (x : α) : Nat → α := fun j => if j = k then x else f j
theorem upd_sameR {α : Type} (f : Nat → α) (k : Nat) (x : α) : updR f k x k = x := if_pos rfl
theorem upd_neR {α : Type} (f : Nat → α) {k j : Nat} (x : α) (h : j ≠ k) : updR f k x j = f j := if_neg h
section
variable {w w' : World} {B B1 B2 n n1 n2 s1 s2 : Nat} {e e1 e2 : TypeId} {v v1 v2 : Value} {xs xs1 xs2 : List Value}
theorem row_neR (h1 : w.ownsRow B1 e1 s1 v1 n1 xs1) (h2 : w.ownsRow B2 e2 s2 v2 n2 xs2) (hne : e1 ≠ e2) : v1.ownBlock = none ∨ v1.ownBlock ≠ v2.ownBlock := by
  rcases h1.2 with ⟨rfl, _⟩ | ⟨g, cap, cur, rfl, _, hg, _⟩
  · exact .inl rfl
  · refine .inr fun h => ?_
    rcases h2.2 with ⟨rfl, _⟩ | ⟨g2, cap2, cur2, rfl, _, hg2, _⟩
    · simp [Value.ownBlock] at h
    · have : g = g2 := by simpa [Value.ownBlock] using h
      subst this
      rw [hg] at hg2
      injection hg2 with hg2
      injection hg2 with _ ht _
      exact hne ht
theorem row_belowR (h : w.ownsRow B e n v n1 xs) (hb : Below w.heap.size w w') : w'.ownsRow B e n v n1 xs :=
  h.kept (grown_of_belowR hb none) (by cases h2 : v.ownBlock with | none => exact Or.inl rfl | some _ => exact Or.inr (by simp))
theorem grown_allocR {o : Obj} {row : Option Nat} (hg : (w.alloc o).grownBy w' row) : w.grownBy w' row :=
  ⟨hg.os, hg.tape, hg.output, Nat.le_trans (by simp) hg.size, fun k hk hne => (hg.block k (by simp; omega) hne).trans ((below_one w o).block k hk)⟩
theorem lies_ownR {g8 n cap : Nat} {P : Nat → Prop} (h : P g8) : ∀ g, (Value.slice (some ⟨g8, 0, none⟩) n cap).ownBlock = some g → P g := by
  intro g hg
  have : g8 = g := by simpa [Value.ownBlock] using hg
  rw [← this]; exact h
theorem row_sizeR (h : w.ownsRow B e n v n1 xs) : ∀ g, v.ownBlock = some g → g < w.heap.size := by
  intro g hg
  rcases h.2 with ⟨rfl, _⟩ | ⟨g2, cap2, cur2, rfl, _, hg2, _⟩
  · cases hg
  · have : g2 = g := by simpa [Value.ownBlock] using hg
    subst this
    exact heap_lt hg2
theorem LBR.of_row {N : Nat} {V : Nat → Value} {A cap : Nat} (h : w.ownsRow B 24 1 (.slice (some ⟨A, 0, none⟩) N cap) N ((List.range N).map V)) : LBR N w A V := by
  rcases h.2 with ⟨h1, _⟩ | ⟨g, cap, cur, h1, _, hg, _, _, _, ht⟩
  · cases h1
  · injection h1 with e1 _ _
    have : A = g := by simpa using e1
    subst this
    refine ⟨cur, hg, fun k hk => ?_⟩
    have h2 : (cur.toList.take (N * 1))[k]? = some (V k) := by rw [ht]; simp [hk]
    rw [List.getElem?_take, if_pos (by omega), Array.getElem?_toList] at h2
    exact h2
end
/-- An append of a list to the lists: where it lies. -/
theorem appendLR4 {ops : Array Oper} {rest : List Oper} {o : Oper} {a : Act} {Q : Exit → Act → World → Prop} (hgd : o.guard = none) (s x : Operand)
    (ho : o.op = .call { callee := .builtin .append, args := #[s, x], argTypes := #[25, 25] }) {B n : Nat} {w : World} {v u : Value} {vs : List Value} (hown : w.ownsRow B 24 1 v n vs) (hB : B ≤ w.heap.size) (hn : n ≤ 1000000) (hu : u.oneCell' = true) (hs : a.eval s = v)
    {c : Nat} (hx : a.eval x = .slice (some ⟨w.heap.size, 0, none⟩) 1 c)
    (h : ∀ g cap w', w'.ownsRow B 24 1 (.slice (some ⟨g, 0, none⟩) (n + 1) cap) (n + 1) (vs ++ [u]) → (w.alloc (Obj.cells #[u] 24)).grownBy w' v.ownBlock → (v.ownBlock = some g ∨ w.heap.size ≤ g) → wpList Tryz.prog ops Q rest (a.put o.dst (.slice (some ⟨g, 0, none⟩) (n + 1) cap)) w') :
    wpList Tryz.prog ops Q (o :: rest) a (w.alloc (Obj.cells #[u] 24)) := by
  obtain ⟨i0, hi, hz0, hz1, hz2⟩ := info_parts infoLstR
  refine wpList_append_lies _ hgd s x _ ho B 24 i0 (.slice none 0 0) 1 24 Tryz.underlying25 hi hz0 hz1 hz2 rfl (by decide) v n vs hs (hown.alloc _) ⟨w.heap.size, 0, none⟩ 1 c [u] hx rfl (World.news_of_block (heap_alloc_new w _)) ?_ (by decide) (by unfold maxLen; omega) (by omega) (Nat.le_trans hB (below_one w _).size) _ rfl ?_
  · intro u' hu'
    rw [List.mem_singleton.1 hu']; exact hu
  · intro g cap w1 h1 h2 h3 _
    exact h g cap w1 h1 h2 (h3.imp id fun h3 => by rw [h3]; exact (below_one w _).size)

/-- Both readers' lists so far. -/
structure PLR (w0 w : World) (F : Nat → List ByteArray) (lv wv : Value) (k : Nat) (X : Nat → Option Addr) (C : Nat → Nat) (Y : Nat → Option Addr) (D : Nat → Nat) (col : Nat → Nat) : Prop where
  below : Below w0.heap.size w0 w
  lrow : w.ownsRow w0.heap.size 24 1 lv k ((List.range k).map (lvR X F C))
  wrow : w.ownsRow w0.heap.size 24 1 wv k ((List.range k).map (lvR Y F D))
  own : ∀ j, j < k → w.ownsRow w0.heap.size 9 1 (lvR X F C j) (F j).length ((F j).map Value.string)
  want : ∀ j, j < k → w.ownsRow w0.heap.size 9 1 (lvR Y F D j) (F j).length ((F j).map Value.string)
  col : ∀ j, j < k → ∀ g, X j = some ⟨g, 0, none⟩ → col g = j
  ne : lv.ownBlock = none ∨ lv.ownBlock ≠ wv.ownBlock
section
variable {w0 w w7 w8 w9 : World} {F : Nat → List ByteArray} {lv wv lv' wv' : Value} {k : Nat} {X Y : Nat → Option Addr} {C D : Nat → Nat} {col : Nat → Nat}
theorem PLR.start (w : World) (F : Nat → List ByteArray) (X Y : Nat → Option Addr) (C D : Nat → Nat) (col : Nat → Nat) : PLR w w F (.slice none 0 0) (.slice none 0 0) 0 X C Y D col :=
  ⟨Below.refl _ _, World.ownsRow_nil _ _ _ _, World.ownsRow_nil _ _ _ _, fun j hj => by omega, fun j hj => by omega, fun j hj => by omega, .inl rfl⟩
theorem PLR.wrow8 (h : PLR w0 w F lv wv k X C Y D col) (hb : Below w.heap.size w w7) {o : Obj} (hg8 : (w7.alloc o).grownBy w8 lv.ownBlock) : w8.ownsRow w0.heap.size 24 1 wv k ((List.range k).map (lvR Y F D)) := by
  refine (row_belowR h.wrow hb).kept (grown_allocR hg8) ?_
  rcases h.ne with h1 | h1
  · cases h2 : wv.ownBlock with
    | none => exact .inl rfl
    | some _ => rw [h1]; exact .inr (by simp)
  · exact .inr fun e => h1 e.symm
theorem lvR_upd (X : Nat → Option Addr) (C : Nat → Nat) (F : Nat → List ByteArray) (k : Nat) (x : Option Addr) (c : Nat) : (List.range (k + 1)).map (lvR (updR X k x) F (updR C k c)) = (List.range k).map (lvR X F C) ++ [.slice x (F k).length c] := by
  rw [List.range_succ, List.map_append]
  congr 1
  · apply List.map_congr_left
    intro j hj
    have : j ≠ k := by have := List.mem_range.1 hj; omega
    unfold lvR
    rw [upd_neR _ _ this, upd_neR _ _ this]
  · simp [lvR, upd_sameR]
theorem PLR.push (h : PLR w0 w F lv wv k X C Y D col) (hb : Below w.heap.size w w7) {x y : Option Addr} {c d : Nat} (hx : w7.ownsRow w.heap.size 9 1 (.slice x (F k).length c) (F k).length ((F k).map Value.string)) (hy : w7.ownsRow w.heap.size 9 1 (.slice y (F k).length d) (F k).length ((F k).map Value.string)) {o1 o2 : Obj}
    (hl8 : w8.ownsRow w0.heap.size 24 1 lv' (k + 1) ((List.range k).map (lvR X F C) ++ [.slice x (F k).length c])) (hg8 : (w7.alloc o1).grownBy w8 lv.ownBlock) (hi8 : ∀ g, lv'.ownBlock = some g → lv.ownBlock = some g ∨ w7.heap.size ≤ g)
    (hl9 : w9.ownsRow w0.heap.size 24 1 wv' (k + 1) ((List.range k).map (lvR Y F D) ++ [.slice y (F k).length d])) (hg9 : (w8.alloc o2).grownBy w9 wv.ownBlock) (hi9 : ∀ g, wv'.ownBlock = some g → wv.ownBlock = some g ∨ w8.heap.size ≤ g) :
    PLR w0 w9 F lv' wv' (k + 1) (updR X k x) (updR C k c) (updR Y k y) (updR D k d) (fun b => if w.heap.size ≤ b then k else col b) := by
  have hne : 9 ≠ 24 := by decide
  have g8 := grown_allocR hg8
  have g9 := grown_allocR hg9
  have hwr := h.wrow8 hb hg8
  have hlt : ∀ g, lv.ownBlock = some g → g < w7.heap.size := row_sizeR (row_belowR h.lrow hb)
  have hwt : ∀ g, wv.ownBlock = some g → g < w7.heap.size := row_sizeR (row_belowR h.wrow hb)
  have hwb : ∀ g, wv.ownBlock = some g → w0.heap.size ≤ g := fun g hg => (h.wrow.lt g hg).1
  have hlb : ∀ g, lv.ownBlock = some g → w0.heap.size ≤ g := fun g hg => (h.lrow.lt g hg).1
  have keep : ∀ (v : Value) (n B : Nat) (xs : List Value), w7.ownsRow B 9 1 v n xs → w9.ownsRow B 9 1 v n xs := fun v n B xs hv => by
    have h8 := hv.kept g8 (row_neR hv (row_belowR h.lrow hb) hne)
    exact h8.kept g9 (row_neR h8 hwr hne)
  have hB7 : Below w0.heap.size w0 w7 := h.below.trans (hb.mono h.below.size)
  have hB8 : Below w0.heap.size w0 w8 := hB7.grown g8 hB7.size hlb
  have hB9 : Below w0.heap.size w0 w9 := hB8.grown g9 hB8.size hwb
  have hl9' : w9.ownsRow w0.heap.size 24 1 lv' (k + 1) ((List.range k).map (lvR X F C) ++ [.slice x (F k).length c]) := by
    refine hl8.kept g9 ?_
    cases h1 : lv'.ownBlock with
    | none => exact .inl rfl
    | some g =>
      refine .inr fun e => ?_
      have hw := hwt g e.symm
      rcases hi8 g h1 with h2 | h2
      · rcases h.ne with h3 | h3
        · rw [h3] at h2; cases h2
        · exact h3 (h2.trans e)
      · omega
  refine ⟨hB9, by rw [lvR_upd]; exact hl9', by rw [lvR_upd]; exact hl9, fun j hj => ?_, fun j hj => ?_, fun j hj g hg => ?_, ?_⟩
  · by_cases hjk : j = k
    · subst hjk
      unfold lvR
      rw [upd_sameR, upd_sameR]
      exact keep _ _ _ _ (own_lessGR hx h.below.size)
    · unfold lvR
      rw [upd_neR _ _ hjk, upd_neR _ _ hjk]
      exact keep _ _ _ _ (row_belowR (h.own j (by omega)) hb)
  · by_cases hjk : j = k
    · subst hjk
      unfold lvR
      rw [upd_sameR, upd_sameR]
      exact keep _ _ _ _ (own_lessGR hy h.below.size)
    · unfold lvR
      rw [upd_neR _ _ hjk, upd_neR _ _ hjk]
      exact keep _ _ _ _ (row_belowR (h.want j (by omega)) hb)
  · by_cases hjk : j = k
    · subst hjk
      rw [upd_sameR] at hg
      have := (hx.lt g (by rw [hg]; rfl)).1
      show (if w.heap.size ≤ g then j else col g) = j
      rw [if_pos this]
    · rw [upd_neR _ _ hjk] at hg
      have := row_sizeR (h.own j (by omega)) g (by unfold lvR; rw [hg]; rfl)
      show (if w.heap.size ≤ g then k else col g) = j
      rw [if_neg (by omega)]
      exact h.col j (by omega) g hg
  · cases h1 : lv'.ownBlock with
    | none => exact .inl rfl
    | some g =>
      refine .inr fun e => ?_
      have hs8 : g < w8.heap.size := row_sizeR hl8 g h1
      rcases hi9 g e.symm with h2 | h2
      · have hw := hwt g h2
        rcases hi8 g h1 with h3 | h3
        · rcases h.ne with h4 | h4
          · rw [h4] at h3; cases h3
          · exact h4 (h3.trans h2.symm)
        · omega
      · omega
theorem PLR.came {N : Nat} {A W cl cw : Nat} (h : PLR w0 w F (.slice (some ⟨A, 0, none⟩) N cl) (.slice (some ⟨W, 0, none⟩) N cw) N X C Y D col) (hF : ∀ k, k < N → (F k).length ≤ 4294967296) : CameR N w0.heap.size w A X C F col :=
  ⟨LBR.of_row h.lrow, h.own, h.col, hF, h.below.size⟩
theorem PLR.after (h : PLR w0 w F lv wv k X C Y D col) (hb : Below w.heap.size w w7) : PLR w0 w7 F lv wv k X C Y D col :=
  ⟨h.below.trans (hb.mono h.below.size), row_belowR h.lrow hb, row_belowR h.wrow hb, fun j hj => row_belowR (h.own j hj) hb, fun j hj => row_belowR (h.want j hj) hb, h.col, h.ne⟩
theorem PLR.tx (h : PLR w0 w F lv wv k X C Y D col) {j : Nat} (hj : j < k) : TxAt w (X j) (F j) ∧ TxAt w (Y j) (F j) := by
  obtain ⟨x, c, e, hl⟩ := tx_of_own (h.own j hj) rfl
  obtain ⟨y, d, e2, hl2⟩ := tx_of_own (h.want j hj) rfl
  unfold lvR at e e2
  injection e with e1 _ _
  injection e2 with e3 _ _
  exact ⟨by rw [e1]; exact hl, by rw [e3]; exact hl2⟩
end

end Go.Proofs.YtopghlnoklajkaaGreatDoor

namespace Go.Proofs.YtopghlnoklajkaaGreatDoor
open Go.ChangeShapes Go.WideShapes Go.ChangeAt Go.RowKit

/-- The names that a text speaks of, as texts. -/
def nmT (s : ByteArray) : List ByteArray := (namesB s.data.toList).1.map fun n => ⟨n.toArray⟩
theorem nmT_len (s : ByteArray) : (nmT s).length ≤ s.size + 1 := by
  unfold nmT namesB
  rw [List.length_map]
  have hl : s.data.toList.length = s.size := by simp
  cases h : piecesB s.data.toList with
  | none => simp
  | some l =>
    have h1 := pieces_len h
    have h2 := namesL_len l
    simp only
    omega
/-- What Names answers, as a list of texts. -/
def NtRes (w : World) (F : List ByteArray) (E : Int) (e : Ending) (w' : World) : Prop :=
  ∃ x c, e = .returned (.tuple #[.slice x F.length c, .int .i64 E]) ∧ w'.ownsRow w.heap.size 9 1 (.slice x F.length c) F.length (F.map Value.string) ∧ Below w.heap.size w w'
theorem nt_of {w w' : World} {s : ByteArray} {e : Ending} (h : NmRes w (namesB s.data.toList) e w') : NtRes w (nmT s) (namesB s.data.toList).2 e w' := by
  obtain ⟨v, rfl, ho, hb⟩ := h
  obtain ⟨x, c, rfl⟩ := own_form ho
  have hl : (nmT s).length = (namesB s.data.toList).1.length := by unfold nmT; rw [List.length_map]
  have hm : (nmT s).map Value.string = (namesB s.data.toList).1.map nmS := by unfold nmT; rw [List.map_map]; rfl
  refine ⟨x, c, by rw [hl], ?_, hb⟩
  rw [hm, hl]
  exact ho
theorem addJ_three {a b : Nat} (h : ¬ 2147483647 < addJ a (addJ a b)) : a ≤ 2147483647 ∧ b ≤ 2147483647 := by
  unfold addJ at h
  split at h
  · omega
  · split at h <;> omega
set_option maxHeartbeats 6400000 in
set_option maxRecDepth 100000 in
theorem refsNames_any (s t : ByteArray) (w : World) (hs : s.size ≤ maxLen) (ht : t.size ≤ maxLen) (hS : Std w) :
    Calls Tryz.prog 3 #[.string s, .string t] w fun e w' => e = .returned (.bool true) ∧ Below w.heap.size w w' := by
  unfold maxLen at hs ht
  have HA1 := Lib.hid (radd_any s.size t.size w (by omega) (by omega) (by omega) (by omega))
  have hi1 := addJ_in (n := s.size) (m := t.size) (by omega) (by omega)
  have HA2 := Lib.hid (radd_any s.size (addJ s.size t.size) w (by omega) (by omega) (by omega) (by omega))
  have HAW := Lib.hid (rawake_any w hS)
  have HSB : Hid (∀ W, Below w.heap.size w W → Std W) := Lib.hid fun W hb => hS.below hb
  have HQ : Hid (¬ 2147483647 < addJ s.size (addJ s.size t.size) → s.size ≤ 2147483647 ∧ t.size ≤ 2147483647) := Lib.hid addJ_three
  clear hs ht hS hi1
  go_enter Tryz.func3, Tryz.ntmps3
  go_wp2_with fail
  refine HA1.out.mono ?_
  rintro e w' ⟨rfl, rfl⟩
  go_wp2_with fail
  refine HA2.out.mono ?_
  rintro e w' ⟨rfl, rfl⟩
  by_cases hb : 2147483647 < addJ s.size (addJ s.size t.size)
  · generalize addJ s.size (addJ s.size t.size) = U at hb ⊢
    go_wp2
    go_ret
    exact ⟨rfl, Below.refl _ _⟩
  · obtain ⟨hs, ht⟩ := HQ.out (by omega)
    generalize addJ s.size (addJ s.size t.size) = U at hb ⊢
    generalize addJ s.size t.size = U1
    have HN : Hid (∀ W, Below w.heap.size w W → ∀ z, z = s ∨ z = t → Calls Tryz.prog 9 #[.string z] W (NtRes W (nmT z) (namesB z.data.toList).2) ∧ ∀ W', Below W.heap.size W W' → Calls Tryz.prog 10 #[.string z] W' (NtRes W' (nmT z) (namesB z.data.toList).2)) := Lib.hid fun W hb z hz => by
      have hz2 : z.size ≤ 2147483647 := by rcases hz with rfl | rfl <;> assumption
      exact ⟨(rnames_any z W (by omega) (HSB.out W hb).maxI (HSB.out W hb).tab).mono fun e w' h => nt_of h, fun W' _ => (refNames_any z W' (by omega)).mono fun e w' h => nt_of h⟩
    clear HA1 HA2 HQ
    go_wp2_with fail
    refine HAW.out.mono ?_
    rintro e w1 ⟨rfl, hb1⟩
    have HB1 := Lib.hid hb1
    clear hb1 HAW HSB
    obtain ⟨w6, hw6⟩ : ∃ w6, w1.alloc (Obj.cells #[.string s, .string t, .string s] 9) = w6 := ⟨_, rfl⟩
    obtain ⟨G, hG⟩ : ∃ G, w1.heap.size = G := ⟨_, rfl⟩
    obtain ⟨F, hF⟩ : ∃ F : Nat → List ByteArray, (fun k => if k = 1 then nmT t else nmT s) = F := ⟨_, rfl⟩
    obtain ⟨Z, hZ⟩ : ∃ Z : Nat → ByteArray, (fun k => if k = 1 then t else s) = Z := ⟨_, rfl⟩
    have HFZ : Hid (∀ k, F k = nmT (Z k) ∧ (Z k = s ∨ Z k = t)) := Lib.hid fun k => by
      rw [← hF, ← hZ]
      show (if k = 1 then nmT t else nmT s) = nmT (if k = 1 then t else s) ∧ ((if k = 1 then t else s) = s ∨ (if k = 1 then t else s) = t)
      split
      · exact ⟨rfl, .inr rfl⟩
      · exact ⟨rfl, .inl rfl⟩
    have HFL : Hid (∀ k, k < 3 → (F k).length ≤ 4294967296) := Lib.hid fun k _ => by
      obtain ⟨h1, h2⟩ := HFZ.out k
      rw [h1]
      have := nmT_len (Z k)
      rcases h2 with h2 | h2 <;> rw [h2] at this ⊢ <;> omega
    have HB6 : Hid (Below w.heap.size w w6) := Lib.hid (by rw [← hw6]; exact HB1.out.trans ((below_one w1 _).mono HB1.out.size))
    have HC6 : Hid (∀ k W, k < 3 → Below w6.heap.size w6 W → W.cell? ⟨G, k, none⟩ = some (.string (Z k))) := Lib.hid fun k W hk hb => by
      rw [hb.cell (p := ⟨G, k, none⟩) (by rw [← hw6, ← hG]; simp), ← hw6, ← hG, World.cell?_alloc_at _ _ _ _ rfl, ← hZ]
      have h3 : k = 0 ∨ k = 1 ∨ k = 2 := by omega
      rcases h3 with rfl | rfl | rfl <;> rfl
    have H0 : Hid (∃ X C Y D col, PLR w6 w6 F (.slice none 0 0) (.slice none 0 0) 0 X C Y D col) := Lib.hid ⟨fun _ => none, fun _ => 0, fun _ => none, fun _ => 0, fun _ => 0, PLR.start w6 F _ _ _ _ _⟩
    clear hF hZ HB1 hs ht
    go_wp2
    try rw [hw6]
    try rw [hG]
    clear hw6 hG
    go_loopw [7, 8, 9] (fun lu wu i wr => ∃ (k : Nat) (lv wv : Value), lv = lu ∧ wv = wu ∧ i = .int .i64 k ∧ k ≤ 3 ∧ Hid (∃ X C Y D col, PLR w6 wr F lv wv k X C Y D col)) (fun _ _ i _ => 3 - (intOf i).toNat)
    case atStart => exact ⟨0, _, _, rfl, rfl, rfl, by omega, H0⟩
    case round =>
      clear H0
      obtain ⟨k, lv, wv, rfl, rfl, rfl, hk, HKK⟩ := hrel
      obtain ⟨X, C, Y, D, col, hpl⟩ := HKK.out
      have HP := Lib.hid hpl
      clear hpl HKK
      by_cases hlt : k < 3
      · obtain ⟨hFk, hZk⟩ := HFZ.out k
        have hNC := HN.out wr (HB6.out.trans (HP.out.below.mono HB6.out.size)) _ hZk
        have b1 := HC6.out k wr hlt HP.out.below
        rw [← hFk] at hNC
        have HNM := Lib.hid hNC.1
        have HRN := Lib.hid hNC.2
        have HCZ : Hid (∀ W, Below w6.heap.size w6 W → W.cell? ⟨G, k, none⟩ = some (.string (Z k))) := Lib.hid fun W hb => HC6.out k W hlt hb
        have q1 : (0 : Int) ≤ k := by omega
        have q2 : (k : Int) < 3 := by omega
        generalize (namesB (Z k).data.toList).2 = en at HNM HRN
        generalize Z k = z at *
        clear hNC hFk hZk
        go_wp2_with fail
        refine HNM.out.mono ?_
        rintro e w8 ⟨x8, c8, rfl, ho8, hb8⟩
        have HO8 := Lib.hid ho8
        have HB8 := Lib.hid hb8
        have b2 := HCZ.out w8 (HP.out.below.trans (hb8.mono HP.out.below.size))
        have hRN := HRN.out w8 hb8
        clear ho8 hb8 b1 HNM HRN
        go_wp2_with fail
        refine hRN.mono ?_
        rintro e w10 ⟨x10, c10, rfl, ho10, hb10⟩
        have HB10 := Lib.hid (HB8.out.trans (hb10.mono HB8.out.size))
        have HO10 := Lib.hid (rowBelow HO8.out hb10)
        have HR10 := Lib.hid (ownLess ho10 HB8.out.size)
        obtain ⟨n, hn⟩ : ∃ n, (F k).length = n := ⟨_, rfl⟩
        rw [hn] at HO10 HR10 ⊢
        have HN' := Lib.hid hn
        have HLR := Lib.hid (rowBelow HP.out.lrow HB10.out)
        have HZ10 : Hid (w6.heap.size ≤ w10.heap.size) := Lib.hid (Nat.le_trans HP.out.below.size HB10.out.size)
        have d1 : (en != en) = false := by simp
        clear hn ho10 hb10 b2 hRN HO8 HB8 HCZ
        go_wp2_with (at_builtin; first
          | (refine appendLR4 rfl _ _ rfl HLR.out HZ10.out (by omega) rfl rfl rfl ?_; intro g8 cap8 w11 hown8 hgrow8 hlies8; have H8 := Lib.hid (And.intro hown8 (And.intro hgrow8 hlies8)); have HWR := Lib.hid (HP.out.wrow8 HB10.out hgrow8); have HZ8 : Hid (w6.heap.size ≤ w11.heap.size) := Lib.hid (Nat.le_trans HZ10.out (grown_allocR hgrow8).size); clear hown8 hgrow8 hlies8)
          | (refine appendLR4 rfl _ _ rfl HWR.out HZ8.out (by omega) rfl rfl rfl ?_; intro g9 cap9 w12 hown9 hgrow9 hlies9; have H9 := Lib.hid (And.intro hown9 (And.intro hgrow9 hlies9)); clear hown9 hgrow9 hlies9))
        go_roundw
        case rel => exact ⟨k + 1, _, _, rfl, rfl, by go_num, by omega, Lib.hid ⟨_, _, _, _, _, HP.out.push HB10.out (by rw [HN'.out]; exact HO10.out) (by rw [HN'.out]; exact HR10.out) (by rw [HN'.out]; exact H8.out.1) H8.out.2.1 (lies_ownR (P := fun g => _ = some g ∨ _ ≤ g) H8.out.2.2) (by rw [HN'.out]; exact H9.out.1) H9.out.2.1 (lies_ownR (P := fun g => _ = some g ∨ _ ≤ g) H9.out.2.2)⟩⟩
        case measure => simp [intOf]; omega
      · have hk4 : (k : Int) = 3 := by omega
        rw [hk4]
        obtain rfl : k = 3 := by omega
        clear hk4
        obtain ⟨A, cl, hal, _, _⟩ := row_formR HP.out.lrow (by decide)
        obtain ⟨W, cw, haw, _, _⟩ := row_formR HP.out.wrow (by decide)
        subst hal haw
        have HPW : Hid (∀ W', Below wr.heap.size wr W' → PLR w6 W' F (.slice (some ⟨A, 0, none⟩) 3 cl) (.slice (some ⟨W, 0, none⟩) 3 cw) 3 X C Y D col) := Lib.hid fun W' hb => HP.out.after hb
        have HBR := Lib.hid HP.out.below
        clear HP hk hlt HN HC6 HFZ
        obtain ⟨wx, hwx⟩ : ∃ wx, wx = wr := ⟨_, rfl⟩
        subst hwx
        go_wp2
        go_loopw [14] (fun i wr => ∃ k : Nat, i = .int .i64 k ∧ k ≤ 3 ∧ Hid (Below wx.heap.size wx wr)) (fun i _ => 3 - (intOf i).toNat)
        case atStart => exact ⟨0, rfl, by omega, Lib.hid (Below.refl _ _)⟩
        case round =>
          obtain ⟨k, rfl, hk, HW⟩ := hrel
          by_cases hlt : k < 3
          · have hpl := HPW.out _ HW.out
            have b1 : wr.cell? ⟨A, k, none⟩ = some (.slice (X k) (F k).length (C k)) := (LBR.of_row hpl.lrow).cell hlt
            have b2 : wr.cell? ⟨W, k, none⟩ = some (.slice (Y k) (F k).length (D k)) := (LBR.of_row hpl.wrow).cell hlt
            have q1 : (0 : Int) ≤ k := by omega
            have q2 : (k : Int) < 3 := by omega
            have HX : Hid (TxAt wr.drew (X k) (F k)) := Lib.hid ((hpl.tx hlt).1.below (below_drewN wr 1))
            have HY : Hid (TxAt wr.drew (Y k) (F k)) := Lib.hid ((hpl.tx hlt).2.below (below_drewN wr 1))
            have HL : Hid ((F k).length ≤ 4611686018427387904) := Lib.hid (by have := HFL.out k hlt; omega)
            have HLL := Lib.hid (LBR.of_row hpl.lrow).lt
            have HWL := Lib.hid (LBR.of_row hpl.wrow).lt
            clear hpl
            go_wp2
            go_region_held3 (fun w' => w'.cell? ⟨A, k, none⟩ = some (.slice (X k) (F k).length (C k)) ∧ w'.cell? ⟨W, k, none⟩ = some (.slice (Y k) (F k).length (D k))) (first | exact ⟨b1, b2⟩ | exact ⟨z1, z2⟩)
              (first | (go_at_call 11; (with_reducible refine (rtexts_any (F k) (X k) (Y k) (C k) (D k) _ HX.out HY.out HL.out).mono ?_); rintro e w2 ⟨rfl, hb2⟩; have hbd := (below_drewN wr 1).trans (hb2.mono (Nat.le_refl _)); have HB2 := Lib.hid (HW.out.trans (hbd.mono HW.out.size)); have z1 : w2.cell? ⟨A, k, none⟩ = some (.slice (X k) (F k).length (C k)) := (hbd.cell (p := ⟨A, k, none⟩) HLL.out).trans b1; have z2 : w2.cell? ⟨W, k, none⟩ = some (.slice (Y k) (F k).length (D k)) := (hbd.cell (p := ⟨W, k, none⟩) HWL.out).trans b2; clear hb2 hbd))
            go_wp2
            go_roundw
            case rel => exact ⟨k + 1, by go_num, by omega, HB2⟩
            case measure => simp [intOf]; omega
          · have q2 : ¬ (k : Int) < 3 := by omega
            have H := Lib.hid ((HPW.out _ HW.out).came HFL.out)
            have HOB : Hid (∀ k, k < 3 → ∀ g, X k = some ⟨g, 0, none⟩ → w6.heap.size ≤ g) := Lib.hid fun k hk g hg => ((H.out.own k hk).lt g (by unfold lvR; rw [hg]; rfl)).1
            have HM := Lib.hid (H.out.start (Below.refl _ _))
            have HBS : Hid (Below w6.heap.size w6 wr) := Lib.hid (HBR.out.trans (HW.out.mono HBR.out.size))
            clear hk hlt HPW HFL HW HBR
            obtain ⟨wz, hwz⟩ : ∃ wz, wz = wr := ⟨_, rfl⟩
            subst hwz
            have HBZ := Lib.hid H.out.size
            go_wp2
            go_loopw [17] (fun i wr => ∃ k : Nat, i = .int .i64 k ∧ k ≤ 3 ∧ Hid (MkdR 3 w6.heap.size wz wr A X C F col k 0)) (fun i _ => 3 - (intOf i).toNat)
            case atStart => exact ⟨0, rfl, by omega, HM⟩
            case round =>
              clear HM q2
              obtain ⟨k, rfl, hk, HM⟩ := hrel
              by_cases hlt : k < 3
              · have q1 : (0 : Int) ≤ k := by omega
                have q2 : (k : Int) < 3 := by omega
                have hw8 : IntKind.u8.wrap (k : Int) = k := IntWalk.u8_in _ (by omega)
                have hcv := convMarkR2 wr k (by omega)
                have hma := mark_addR k
                have HM1 : Hid (∀ o, MkdR 3 w6.heap.size wz (wr.alloc o) A X C F col k 0) := Lib.hid fun o => HM.out.below' HBZ.out (below_one wr o)
                clear HM
                go_wp2
                go_loopw [19] (fun i wq => ∃ j : Nat, i = .int .i64 j ∧ j ≤ (F k).length ∧ Hid (MkdR 3 w6.heap.size wz wq A X C F col k j)) (fun i _ => (F k).length - (intOf i).toNat)
                case atStart => exact ⟨0, rfl, by omega, Lib.hid (HM1.out _)⟩
                case round =>
                  clear HM1
                  obtain ⟨j, rfl, hj, HM⟩ := hrel
                  have hlen := H.out.len k hlt
                  have c1 : wr.cell? ⟨A, k, none⟩ = some (.slice (X k) (F k).length (C k)) := HM.out.lb.cell hlt
                  by_cases hjt : j < (F k).length
                  · obtain ⟨g, va, hX, g0, f0, hM⟩ := HM.out.mark hlt hjt (HOB.out k hlt)
                    have HN := Lib.hid hM
                    clear hM
                    rw [hX] at c1
                    obtain ⟨n, hn⟩ : ∃ n, (F k).length = n := ⟨_, rfl⟩
                    rw [hn] at c1 hjt hlen
                    have q3 : (0 : Int) ≤ j := by omega
                    have q4 : (j : Int) < n := by omega
                    clear hX
                    go_wp2
                    go_roundw
                    case rel => exact ⟨j + 1, by go_num, by omega, HN⟩
                    case measure => simp [intOf]; omega
                  · have HN := Lib.hid (by have h := HM.out; rw [show j = (F k).length by omega] at h; exact h.next)
                    obtain ⟨n, hn⟩ : ∃ n, (F k).length = n := ⟨_, rfl⟩
                    rw [hn] at c1 hjt hlen
                    have q4 : ¬ (j : Int) < n := by omega
                    clear HM
                    go_wp2
                    go_roundw
                    case rel => exact ⟨k + 1, by go_num, by omega, HN⟩
                    case measure => simp [intOf]; omega
              · have HG : Hid (∃ vs col', GrwR 3 w6.heap.size wz wr wr.heap.size A X C F 0 (.slice none 0 0) vs col') := Lib.hid (by have h := HM.out; rw [show k = 3 by omega] at h; exact ⟨[], col, h.grw HBZ.out⟩)
                have q2 : ¬ (k : Int) < 3 := by omega
                clear HM
                obtain ⟨B2, hB2⟩ : ∃ B2, wr.heap.size = B2 := ⟨_, rfl⟩
                rw [hB2] at HG
                clear hB2
                obtain ⟨wy, hwy⟩ : ∃ wy, wy = wr := ⟨_, rfl⟩
                subst hwy
                go_wp2
                go_loopw [16, 20] (fun a i wr => ∃ k : Nat, i = .int .i64 k ∧ k ≤ 3 ∧ Hid (∃ vs col', GrwR 3 w6.heap.size wz wr B2 A X C F (4 * k) a vs col')) (fun _ i _ => 3 - (intOf i).toNat)
                case atStart => exact ⟨0, rfl, by omega, HG⟩
                case round =>
                  clear HG hlt hk q2
                  obtain ⟨k, rfl, hk, HG⟩ := hrel
                  by_cases hlt : k < 3
                  · have c1 : wr.cell? ⟨A, k, none⟩ = some (.slice (X k) (F k).length (C k)) := by
                      obtain ⟨vs, col', h⟩ := HG.out
                      exact h.lb.cell hlt
                    have HN : Hid (∃ vs col', GrwR 3 w6.heap.size wz wr B2 A X C F (4 * k + 0) _ vs col' ∧ NowR w6.heap.size wr col' k 0 (X k) (F k).length (C k)) := Lib.hid (by
                      obtain ⟨vs, col', h⟩ := HG.out
                      exact ⟨vs, col', h, h.now hlt (H.out.len k hlt) (HOB.out k hlt)⟩)
                    have q1 : (0 : Int) ≤ k := by omega
                    have q2 : (k : Int) < 3 := by omega
                    clear HG
                    go_wp2
                    go_loopw [16, 21, 22] (fun a x j wq => ∃ (m : Nat) (xa : Option Addr) (len c : Nat), j = .int .i64 m ∧ x = .slice xa len c ∧ m ≤ 4 ∧ Hid (∃ vs col', GrwR 3 w6.heap.size wz wq B2 A X C F (4 * k + m) a vs col' ∧ NowR w6.heap.size wq col' k m xa len c)) (fun _ _ j _ => 4 - (intOf j).toNat)
                    case atStart => exact ⟨0, _, _, _, rfl, rfl, by omega, HN⟩
                    case round =>
                      clear HN
                      rename_i al0 x0 j0
                      obtain ⟨m, xa, len, c, rfl, rfl, hm, HN⟩ := hrel
                      by_cases hmt : m < 4
                      · obtain ⟨vs, col', hG, hN⟩ := HN.out
                        have HG := Lib.hid hG
                        have HNN := Lib.hid hN
                        have hw8 : IntKind.u8.wrap (k : Int) = k := IntWalk.u8_in _ (by omega)
                        have q3 : (0 : Int) ≤ m := by omega
                        have q4 : (m : Int) < 4 := by omega
                        clear hG hN HN c1
                        have hcv := fun W : World => convMarkR2 W k (by omega)
                        have hma := mark_addR k
                        go_wp2_with (at_builtin; first
                          | (refine appendLR rfl _ _ rfl HG2.out.all HG2.out.b3 (by omega) rfl rfl rfl ?_; intro g cap w3 hown hgrow; have HG3 := Lib.hid (HG2.out.push HN2.out (by omega) (by omega) hgrow hown); clear hown hgrow)
                          | (go_loud (refine appendMR rfl _ _ rfl (HNN.out.below' (below_one _ _)) (Nat.le_trans HG.out.b1 (Nat.le_trans HG.out.b3 (below_one _ _).size)) (by omega) rfl (by simp) rfl ?_; intro x' l2 c2 w2 col2 hn2 he2 hh2 hb2; have HG2 := Lib.hid ((HG.out.below' HBZ.out (below_one _ _)).grow hb2 he2 hh2); have HN2 := Lib.hid hn2; clear hn2 he2 hh2 hb2)))
                        go_roundw
                        case rel => exact ⟨m + 1, x', l2, c2, by go_num, rfl, by omega, Lib.hid ⟨_, _, HG3.out.1, HG3.out.2⟩⟩
                        case measure => simp [intOf]; omega
                      · have q4 : ¬ (m : Int) < 4 := by omega
                        go_wp2
                        go_roundw
                        case rel => exact ⟨k + 1, by go_num, by omega, Lib.hid (by
                          obtain ⟨vs, col', h1, _⟩ := HN.out
                          rw [show 4 * k + m = 4 * (k + 1) by omega] at h1
                          exact ⟨vs, col', h1⟩)⟩
                        case measure => simp [intOf]; omega
                  · obtain ⟨vs, col', hG⟩ := HG.out
                    rw [show 4 * k = 12 by omega] at hG
                    have hG0 := hG.all
                    obtain ⟨A2, cap, hal, hAl, hcells⟩ := row_formR hG0 (by decide)
                    have HA : Hid (∀ t, t < 12 → ∃ x len c, wr.cell? ⟨A2, t, none⟩ = some (.slice x len c) ∧ len ≤ 4294967300 ∧ Ent wr 9 1 mkR col' (t / 4) (.slice x len c) len) := Lib.hid fun t ht => by
                      have hlen : vs.length = 12 := by have := hG.all.1; omega
                      obtain ⟨x, len, c, e, hl, he⟩ := hG.ents t vs[t] (List.getElem?_eq_getElem (by omega))
                      have hc := hcells t vs[t] (List.getElem?_eq_getElem (by omega))
                      exact ⟨x, len, c, by rw [hc, e], hl, by rw [← e]; exact he⟩
                    have HB0 : Hid (Below w.heap.size w wr) := Lib.hid (HB6.out.trans ((HBS.out.trans hG.below).mono HB6.out.size))
                    have q2 : ¬ (k : Int) < 3 := by omega
                    clear HG hG hG0 hcells
                    subst hal
                    obtain ⟨wu, hwu⟩ : ∃ wu, wu = wr := ⟨_, rfl⟩
                    subst hwu
                    go_wp2
                    go_loopw [23] (fun i wr => ∃ t : Nat, i = .int .i64 t ∧ t ≤ 12 ∧ Hid (Below wu.heap.size wu wr)) (fun i _ => 12 - (intOf i).toNat)
                    case atStart => exact ⟨0, rfl, by omega, Lib.hid (Below.refl _ _)⟩
                    case round =>
                      clear hlt hk q2
                      obtain ⟨t, rfl, ht, HW⟩ := hrel
                      by_cases htt : t < 12
                      · obtain ⟨x, len, c, hc, hle, he⟩ := HA.out t htt
                        have c1 := (HW.out.cell (p := ⟨A2, t, none⟩) hAl).trans hc
                        have HE := Lib.hid he
                        have HC := Lib.hid hc
                        have q5 : (0 : Int) ≤ t := by omega
                        have q6 : (t : Int) < 12 := by omega
                        clear hc he
                        go_wp2
                        go_loopw [24] (fun j wq => ∃ m : Nat, j = .int .i64 m ∧ m ≤ len ∧ Hid (Below wu.heap.size wu wq)) (fun j _ => len - (intOf j).toNat)
                        case atStart => exact ⟨0, rfl, by omega, HW⟩
                        case round =>
                          clear HW c1
                          obtain ⟨m, rfl, hm, HW⟩ := hrel
                          by_cases hmt : m < len
                          · obtain ⟨g, rfl, hg, hc⟩ := HE.out.cell hmt (k' := m) rfl
                            obtain ⟨q, hq⟩ : ∃ q, t / 4 = q := ⟨_, rfl⟩
                            rw [hq] at hc
                            have hqi : (t : Int) / 4 = q := by omega
                            have hqt : (t : Int).tdiv 4 = q := by rw [Int.tdiv_eq_ediv_of_nonneg q5]; exact hqi
                            have hqw : IntKind.i64.wrap (q : Int) = q := IntWalk.i64_in _ (by omega)
                            have hw8 : IntKind.u8.wrap (q : Int) = q := IntWalk.u8_in _ (by omega)
                            have c1 : wr.cell? ⟨A2, t, none⟩ = some (.slice (some ⟨g, 0, none⟩) len c) := (HW.out.cell (p := ⟨A2, t, none⟩) hAl).trans HC.out
                            have c2 : wr.cell? ⟨g, m, none⟩ = some (.string (markR q)) := (HW.out.cell (p := ⟨g, m, none⟩) hg).trans hc
                            have f1 : ∀ o, (wr.alloc o).drew.cell? ⟨A2, t, none⟩ = some (.slice (some ⟨g, 0, none⟩) len c) := fun o => by
                              rw [show (wr.alloc o).drew.cell? ⟨A2, t, none⟩ = (wr.alloc o).cell? ⟨A2, t, none⟩ from rfl, (below_one wr o).cell (p := ⟨A2, t, none⟩) (Nat.lt_of_lt_of_le hAl HW.out.size)]; exact c1
                            have f2 : ∀ o, (wr.alloc o).drew.cell? ⟨g, m, none⟩ = some (.string (markR q)) := fun o => by
                              rw [show (wr.alloc o).drew.cell? ⟨g, m, none⟩ = (wr.alloc o).cell? ⟨g, m, none⟩ from rfl, (below_one wr o).cell (p := ⟨g, m, none⟩) (Nat.lt_of_lt_of_le hg HW.out.size)]; exact c2
                            have hcv := convMarkR wr q (by omega)
                            have hma := mark_addR q
                            have q7 : (0 : Int) ≤ m := by omega
                            have q8 : (m : Int) < len := by omega
                            clear hc hq
                            go_wp2
                            go_region_law (fail)
                            all_goals
                              go_wp2
                              go_roundw
                              case rel => exact ⟨m + 1, by go_num, by omega, Lib.hid (HW.out.trans (((below_one _ _).drew).mono HW.out.size))⟩
                              case measure => simp [intOf]; omega
                          · have c1 : wr.cell? ⟨A2, t, none⟩ = some (.slice x len c) := (HW.out.cell (p := ⟨A2, t, none⟩) hAl).trans HC.out
                            have q8 : ¬ (m : Int) < len := by omega
                            go_wp2
                            go_roundw
                            case rel => exact ⟨t + 1, by go_num, by omega, HW⟩
                            case measure => simp [intOf]; omega
                      · have q6 : ¬ (t : Int) < 12 := by omega
                        go_wp2
                        go_ret
                        exact ⟨rfl, HB0.out.trans (HW.out.mono HB0.out.size)⟩
end Go.Proofs.YtopghlnoklajkaaGreatDoor
