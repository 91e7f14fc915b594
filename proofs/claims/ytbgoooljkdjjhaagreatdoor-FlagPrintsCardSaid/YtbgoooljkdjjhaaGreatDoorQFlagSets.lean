/-
  KeyStands0, KeyStands1, FlagSets.
-/
import Derived.Test.YtbgoooljkdjjhaaGreatDoorQKeyRefs
import Derived.Test.YtbgoooljkdjjhaaGreatDoorQFlagLaw0
namespace Go.Proofs.YtbgoooljkdjjhaaGreatDoor
open Go.ChangeShapes Go.WideShapes Go.ChangeAt Go.RowKit

/-- An append of definitions to a row of the call's own. -/
theorem wpList_append_keys {ops : Array Oper} {rest : List Oper} {o : Oper} {a : Act} {Q : Exit → Act → World → Prop} (hgd : o.guard = none) (s x : Operand)
    (ho : o.op = .call { callee := .builtin .append, args := #[s, x], argTypes := #[22, 22] }) {B n m c g : Nat} {w : World} {v : Value} {ls ks : List KeyV} (hown : w.ownsRow B 57 6 v n (flat ls)) (hB : B ≤ w.heap.size) (hn : n + m ≤ 1000000) (hk : Keys w (some ⟨g, 0, none⟩) ks) (hm : ks.length = m) (h0 : 0 < m)
    (hs : a.eval s = v) (hx : a.eval x = .slice (some ⟨g, 0, none⟩) m c)
    (h : ∀ y c' w', Keys w' (some ⟨y, 0, none⟩) (ls ++ ks) → Below B w w' → wpList Tryz.prog ops Q rest (a.put o.dst (.slice (some ⟨y, 0, none⟩) (n + m) c')) w') : wpList Tryz.prog ops Q (o :: rest) a w := by
  obtain ⟨i0, hi, hz0, hz1, hz2⟩ := info_parts infoKey
  refine wpList_append_own w hgd s x 22 ho B 57 i0 _ 6 72 Tryz.underlying22 hi hz0 hz1 hz2 rfl (by decide) v n (flat ls) hs hown ⟨g, 0, none⟩ m c (flat ks) hx (by rw [flat_len, hm]) (fun j u hu => by rw [add_at, Nat.zero_add]; exact hk.flat j u hu) (flat_one _) (by unfold maxLen; omega) (by omega) hB ?_
  intro v' w' h1 h2 _
  rw [← flat_append] at h1
  rcases h1.2 with ⟨_, h3⟩ | ⟨y, cap, cur, hv, _, hy, _, _, _, hl⟩
  · omega
  · subst hv
    refine h y cap w' (Keys.of_block (t := 57) (fr := (0, 0)) hy fun j u hu => ?_) ((Below.refl B w).grown h2 hB fun k hk => (hown.lt k hk).1)
    rw [← hl, List.getElem?_take] at hu
    split at hu
    · rw [Array.getElem?_toList] at hu; exact hu
    · cases hu
/-- The first append's row is the call's own. -/
theorem own_of_first {w : World} {g c n : Nat} {cur : Array Value} {ls : List KeyV} (hg : w.heap[g]? = some (.cells cur 57 (0, 0))) (hl : ls.length = n) (hc : n ≤ c) (hcs : c * 6 = cur.size) (hcm : c ≤ maxLen) (hp : ∀ (j : Nat) (v : Value), (flat ls)[j]? = some v → cur[j]? = some v) (B : Nat) (hB : B ≤ g) : w.ownsRow B 57 6 (.slice (some ⟨g, 0, none⟩) n c) n (flat ls) := by
  refine ⟨by rw [flat_len, hl], .inr ⟨g, c, cur, rfl, hB, hg, hc, hcm, hcs.symm, ?_⟩⟩
  apply List.ext_getElem?
  intro j
  rw [List.getElem?_take]
  by_cases hj : j < n * 6
  · rw [if_pos hj, Array.getElem?_toList]
    have h2 : j < (flat ls).length := by rw [flat_len, hl]; exact hj
    rw [List.getElem?_eq_getElem h2]
    exact hp j _ (List.getElem?_eq_getElem h2)
  · rw [if_neg hj, List.getElem?_eq_none (by rw [flat_len, hl]; omega)]

theorem first_run2 (w : World) (g o m c : Nat) (news : List Value) (hl : news.length = m * 6) (hnews : ∀ (j : Nat) (v : Value), news[j]? = some v → w.cell? ⟨g, o + j, none⟩ = some v) (hm : 0 < m) (hn : m ≤ 1000000) :
    ∃ c' cur, (∀ ty, (Builtin.append_ #[22, 22] ty #[.slice none 0 0, .slice (some ⟨g, o, none⟩) m c]).run Tryz.prog w = .ok (.slice (some ⟨w.heap.size, 0, none⟩) m c') (w.drew.alloc (.cells cur 57))) ∧
      m ≤ c' ∧ c' * 6 = cur.size ∧ c' ≤ maxLen ∧ ∀ (j : Nat) (v : Value), news[j]? = some v → cur[j]? = some v := by
  obtain ⟨i0, hi, hz0, hz1, hz2⟩ := info_parts infoKey
  have hle := grownCap_ge w m 0 57
  refine ⟨_, _, fun ty => run_append_nil (P := Tryz.prog) w 22 ty 57 i0 _ Tryz.underlying22 hi hz0 ⟨g, o, none⟩ m c news (by rw [hz1]; exact hl) (fun j v hv => by rw [add_at]; exact hnews j v hv) hm (by omega) (by rw [hz2]; omega), hle, ?_, grownCap_le_maxLen w m 0 _ (by unfold maxLen; omega), ?_⟩
  · rw [Array.size_append, size_zeroCells]
    show _ = news.toArray.size + (_ - m) * 6
    simp only [List.size_toArray, hl]
    omega
  · intro j v hv
    have hj : j < news.length := (List.getElem?_eq_some_iff.1 hv).1
    rw [Array.getElem?_append_left (by simpa using hj)]
    rw [List.getElem?_toArray]; exact hv
theorem block_under (w : World) (o1 o2 : Obj) : ((w.alloc o1).alloc o2).heap[w.heap.size]? = some o1 := ((below_one (w.alloc o1) o2).block w.heap.size (by simp)).trans (heap_alloc_new w o1)
/-- Three definitions in a row. -/
def three (m : ByteArray) : List KeyV := [⟨m, 0, ⟨#[]⟩, 0, 0, m⟩, ⟨⟨#[110, 101, 116, 46, 112, 111, 114, 116]⟩, 0, ⟨#[]⟩, 0, 0, ⟨#[112]⟩⟩, kZero]

theorem gen_wpl {P : Program} {ops : Array Oper} {Q : Exit → Act → World → Prop} {l : List Oper} {a : Act} {w : World} (F : World → Prop) (hF : F w) (h : ∀ W, F W → wpList P ops Q l a W) : wpList P ops Q l a w := h w hF
end Go.Proofs.YtbgoooljkdjjhaaGreatDoor

namespace Go.Proofs.YtbgoooljkdjjhaaGreatDoor
open Go.ChangeShapes Go.WideShapes Go.ChangeAt Go.RowKit

set_option maxHeartbeats 1600000 in
set_option maxRecDepth 100000 in
theorem refStandard_any (w : World) : Calls Tryz.prog 32 #[] w fun e w' => e = .returned (.pointer (some ⟨w.heap.size + 1, 0, none⟩)) ∧ SetAt w' (w.heap.size + 1) (some ⟨w.heap.size, 0, none⟩) 16 stdL ∧ Below w.heap.size w w' := by
  have HE : Hid (∀ t u, SetAt ((w.alloc (Obj.cells (flat stdL).toArray t)).alloc (Obj.cells #[.slice (some ⟨w.heap.size, 0, none⟩) 16 16] u)) (w.heap.size + 1) (some ⟨w.heap.size, 0, none⟩) 16 stdL ∧ Below w.heap.size w ((w.alloc (Obj.cells (flat stdL).toArray t)).alloc (Obj.cells #[.slice (some ⟨w.heap.size, 0, none⟩) 16 16] u))) := Lib.hid fun t u => by
    have hb := below_one (w.alloc (Obj.cells (flat stdL).toArray t)) (Obj.cells #[.slice (some ⟨w.heap.size, 0, none⟩) 16 16] u)
    refine ⟨⟨?_, (keys_flat w stdL t).below hb, by decide, (fun e => by cases e), ?_⟩, (below_one w _).trans (hb.mono (below_one w _).size)⟩
    · have hz : (w.alloc (Obj.cells (flat stdL).toArray t)).heap.size = w.heap.size + 1 := by simp
      rw [← hz, show stdL.length = 16 from rfl]
      simp
    · have hz : (w.alloc (Obj.cells (flat stdL).toArray t)).heap.size = w.heap.size + 1 := by simp
      rw [← hz]
      simp
  go_enter Tryz.func32, Tryz.ntmps32
  go_wp2
  go_ret
  exact ⟨rfl, HE.out _ _⟩

end Go.Proofs.YtbgoooljkdjjhaaGreatDoor

namespace Go.Proofs.YtbgoooljkdjjhaaGreatDoor
open Go.ChangeShapes Go.WideShapes Go.ChangeAt Go.RowKit

/-- Both in memory, apart. -/
structure Two (w0 w : World) (S : Nat) (x : Option Addr) (c X : Nat) (v : Value) (xs ys : List KeyV) : Prop where
  a : SetAt w S x c xs
  sorted : Sorted xs
  len : xs.length ≤ 64
  b : RefAt w0.heap.size w X v ys
  perm : ys.Perm xs
  ne : S ≠ X
  neS : v.ownBlock ≠ some S
  row : ∀ b off, x = some ⟨b, off, none⟩ → b ≠ X ∧ v.ownBlock ≠ some b
  newS : w0.heap.size ≤ S
  below : Below w0.heap.size w0 w
theorem SetAt.kept {w w' : World} {S : Nat} {x : Option Addr} {c : Nat} {xs : List KeyV} (h : SetAt w S x c xs) (hz : w.heap.size ≤ w'.heap.size) (hS : w'.heap[S]? = w.heap[S]?) (hx : ∀ b, x = some ⟨b, 0, none⟩ → b < w.heap.size → w'.heap[b]? = w.heap[b]?) : SetAt w' S x c xs :=
  ⟨(cell_blk hS 0).trans h.cell, fun i hi => by
    obtain ⟨b, e, hl, c0, c1, c2, c3, c4, c5⟩ := h.keys i hi
    have hb := hx b e hl
    exact ⟨b, e, Nat.lt_of_lt_of_le hl hz, (cell_blk hb _).trans c0, (cell_blk hb _).trans c1, (cell_blk hb _).trans c2, (cell_blk hb _).trans c3, (cell_blk hb _).trans c4, (cell_blk hb _).trans c5⟩, h.room, h.none_, (frozen_blk hS 0).trans h.free⟩
theorem RefAt.kept {B : Nat} {w w' : World} {X S : Nat} {v : Value} {ys : List KeyV} (h : RefAt B w X v ys) (hb : But S w w') (hX : X ≠ S) (hv : v.ownBlock ≠ some S) : RefAt B w' X v ys :=
  ⟨(cell_blk (hb.2.2.2.2 X h.lt hX) 0).trans h.cell, (frozen_blk (hb.2.2.2.2 X h.lt hX) 0).trans h.free,
    h.own.kept (row := some S) ⟨hb.1, hb.2.1, hb.2.2.1, hb.2.2.2.1, fun q hq hne => hb.2.2.2.2 q hq (fun e => hne (by rw [e]))⟩ (.inr hv), h.ne, h.none_, h.new⟩
theorem own_lt {w : World} {B : Nat} {e : TypeId} {size n : Nat} {v : Value} {xs : List Value} (h : w.ownsRow B e size v n xs) : ∀ g, v.ownBlock = some g → g < w.heap.size := by
  intro g hg
  rcases h.2 with ⟨h1, _⟩ | ⟨g', cap, cur, h1, _, hgg, _⟩
  · rw [h1] at hg; cases hg
  · rw [h1] at hg
    injection hg with hg
    have hg' : g' = g := hg
    rw [← hg']
    exact (Array.getElem?_eq_some_iff.1 hgg).1
/-- The program's set has taken one in. -/
theorem Two.first {w0 w w' : World} {S c X : Nat} {x : Option Addr} {v : Value} {xs ys zs : List KeyV} (h : Two w0 w S x c X v xs ys) (ha : Added w S zs w') :
    ∃ x' c', SetAt w' S x' c' zs ∧ RefAt w0.heap.size w' X v ys ∧ (∀ b off, x' = some ⟨b, off, none⟩ → b ≠ X ∧ v.ownBlock ≠ some b) ∧ Below w0.heap.size w0 w' ∧ w.heap.size ≤ w'.heap.size := by
  obtain ⟨⟨x', c', hs, hf⟩, hb⟩ := ha
  refine ⟨x', c', hs, h.b.kept hb h.ne.symm h.neS, fun b off e => ?_, h.below.trans (hb.below h.newS h.below.size), hb.2.2.2.1⟩
  rcases hf with hf | hf
  · have : Value.slice x' zs.length c' = Value.slice x xs.length c := by
      have h1 := hs.cell
      rw [hf, h.a.cell] at h1
      exact (Option.some.inj h1).symm
    injection this with e1 _ _
    exact h.row b off (by rw [← e1]; exact e)
  · have hle := hf b off e
    refine ⟨fun e2 => ?_, fun e2 => ?_⟩
    · have := h.b.lt; omega
    · have := own_lt h.b.own b e2; omega
/-- Both have taken one in. -/
theorem Two.second {w0 w w1 w2 : World} {S c X c' : Nat} {x x' : Option Addr} {v v2 : Value} {xs ys zs us : List KeyV} (h : Two w0 w S x c X v xs ys) (hs : SetAt w1 S x' c' zs) (hr : ∀ b off, x' = some ⟨b, off, none⟩ → b ≠ X ∧ v.ownBlock ≠ some b) (hb1 : Below w0.heap.size w0 w1)
    (h2 : RefAt w0.heap.size w2 X v2 us) (hf : RFr X v w1 w2) (ho : v2.ownBlock = v.ownBlock ∨ ∃ g, v2.ownBlock = some g ∧ w1.heap.size ≤ g) (hso : Sorted zs) (hl : zs.length ≤ 64) (hp : us.Perm zs) (hv : ∀ g, v.ownBlock = some g → w0.heap.size ≤ g) : Two w0 w2 S x' c' X v2 zs us := by
  have hSl : S < w1.heap.size := lt_of_cell hs.cell
  refine ⟨hs.kept hf.2.2.2.1 (hf.2.2.2.2 S hSl h.ne h.neS) (fun b e hl => hf.2.2.2.2 b hl (hr b 0 e).1 (hr b 0 e).2), hso, hl, h2, hp, h.ne, ?_, fun b off e => ⟨(hr b off e).1, ?_⟩, h.newS, ?_⟩
  · rcases ho with ho | ⟨g, ho, hg⟩
    · rw [ho]; exact h.neS
    · rw [ho]; intro e; injection e with e; omega
  · rcases ho with ho | ⟨g, ho, hg⟩
    · rw [ho]; exact (hr b off e).2
    · rw [ho]; intro e2
      injection e2 with e2
      have hne : zs ≠ [] := fun e3 => by have := (hs.none_ e3).1; rw [this] at e; cases e
      obtain ⟨b', e', hl', _⟩ := hs.keys 0 (List.length_pos_iff.2 hne)
      rw [e'] at e
      injection e with e
      injection e with e _ _
      omega
  · refine ⟨hf.1.trans hb1.os, hf.2.1.trans hb1.tape, hf.2.2.1.trans hb1.output, Nat.le_trans hb1.size hf.2.2.2.1, fun q hq => ?_⟩
    rw [hf.2.2.2.2 q (Nat.lt_of_lt_of_le hq hb1.size) (fun e => by have := h2.new; omega) (fun e => by have := hv q e; omega)]
    exact hb1.block q hq
theorem refNew_any (w : World) : Calls Tryz.prog 34 #[] w fun e w' => e = .returned (.pointer (some ⟨w.heap.size, 0, none⟩)) ∧ Below w.heap.size w w' ∧ w'.cell? ⟨w.heap.size, 0, none⟩ = some (.slice none 0 0) ∧ w'.frozen? ⟨w.heap.size, 0, none⟩ = false := by
  have HE : Hid (∀ t, Below w.heap.size w (w.alloc (Obj.cells #[.slice none 0 0] t)) ∧ (w.alloc (Obj.cells #[.slice none 0 0] t)).cell? ⟨w.heap.size, 0, none⟩ = some (.slice none 0 0) ∧ (w.alloc (Obj.cells #[.slice none 0 0] t)).frozen? ⟨w.heap.size, 0, none⟩ = false) := Lib.hid fun t => ⟨below_one w _, by simp, by simp⟩
  go_enter Tryz.func34, Tryz.ntmps34
  go_wp2
  go_ret
  exact ⟨rfl, HE.out _⟩
/-- What sets answers. -/
def SetsRes (w : World) (e : Ending) (w' : World) : Prop :=
  ∃ S X x c y d xs ys, e = .returned (.tuple #[.pointer (some ⟨S, 0, none⟩), .pointer (some ⟨X, 0, none⟩), .bool true]) ∧ SetAt w' S x c xs ∧ Sorted xs ∧ xs.length ≤ 64 ∧ SetAt w' X y d ys ∧ ys.Perm xs ∧ Below w.heap.size w w'
theorem sets_of_two {w w' : World} {S c X : Nat} {x : Option Addr} {v : Value} {xs ys : List KeyV} (h : Two w w' S x c X v xs ys) : SetsRes w (.returned (.tuple #[.pointer (some ⟨S, 0, none⟩), .pointer (some ⟨X, 0, none⟩), .bool true])) w' := by
  obtain ⟨y, d, _, hy⟩ := h.b.set
  exact ⟨S, X, x, c, y, d, xs, ys, rfl, h.a, h.sorted, h.len, hy, h.perm, h.below⟩
set_option maxHeartbeats 3200000 in
set_option maxRecDepth 100000 in
theorem sets_any (which : Int) (x : Option Addr) (c : Nat) (ls : List KeyV) (w : World) (hw : -9223372036854775808 ≤ which ∧ which ≤ 9223372036854775807) (h : KeysAt w x ls) (hn : ls.length ≤ 4294967280) (hz : ∀ l ∈ ls, l.name.size ≤ 2147483647 ∧ l.dflt.size ≤ 2147483647 ∧ l.letter.size ≤ 2147483647) (hT : Tab w) (hU : Units w) (hM : MaxI w) :
    Calls Tryz.prog 10 #[.int .i64 which, .slice x ls.length c] w (SetsRes w) := by
  have HPK : Hid (∀ W, Calls Tryz.prog 31 #[.int .i64 which, .int .i64 2] W fun e w' => e = .returned (.int .i64 (pickJ which 2)) ∧ W = w') := Lib.hid fun W => fpick_any which 2 W (by omega) (by omega) hw.1 hw.2
  obtain ⟨P2, hP2⟩ : ∃ P2, pickJ which 2 = P2 := ⟨_, rfl⟩
  rw [hP2] at HPK
  clear hP2
  by_cases h0 : P2 = 0
  · subst h0
    have HST := Lib.hid (standard_any w hT hU hM)
    have HRS : Hid (∀ W, Calls Tryz.prog 32 #[] W fun e w' => e = .returned (.pointer (some ⟨W.heap.size + 1, 0, none⟩)) ∧ SetAt w' (W.heap.size + 1) (some ⟨W.heap.size, 0, none⟩) 16 stdL ∧ Below W.heap.size W w') := Lib.hid fun W => refStandard_any W
    clear h hz hT hU hM
    go_enter Tryz.func10, Tryz.ntmps10
    go_wp2_with fail
    refine (HPK.out _).mono ?_
    rintro e w' ⟨rfl, rfl⟩
    go_wp2_with fail
    refine HST.out.mono ?_
    rintro e w1 ⟨S, rfl, hs⟩
    go_wp2_with fail
    refine (HRS.out _).mono ?_
    rintro e w2 ⟨rfl, hx, hb2⟩
    have HF : Hid (SetsRes w (.returned (.tuple #[.pointer (some ⟨S, 0, none⟩), .pointer (some ⟨w1.heap.size + 1, 0, none⟩), .bool true])) w2) := Lib.hid (by
      obtain ⟨x, c, hsa⟩ := hs.set
      exact ⟨S, _, x, c, _, _, stdL, stdL, rfl, hsa.below hb2, hs.sorted, hs.len, hx, List.Perm.refl _, hs.below.trans (hb2.mono hs.below.size)⟩)
    clear hs hx hb2
    go_wp2
    go_ret3
    exact HF.out
  · have d0 : (P2 == 0) = false := beq_eq_false_iff_ne.2 h0
    have HL := Lib.hid h
    have HZ := Lib.hid hz
    have HT : Hid (∀ W, Below w.heap.size w W → Tab W ∧ Units W ∧ MaxI W) := Lib.hid fun W hb => ⟨hT.below hb, hU.below hb, hM.below hb⟩
    obtain ⟨n, hn'⟩ : ∃ n, ls.length = n := ⟨_, rfl⟩
    have HN := Lib.hid hn'
    rw [hn'] at hn ⊢
    have HNW := Lib.hid (new_any w)
    have HRN : Hid (∀ W, Calls Tryz.prog 34 #[] W fun e w' => e = .returned (.pointer (some ⟨W.heap.size, 0, none⟩)) ∧ Below W.heap.size W w' ∧ w'.cell? ⟨W.heap.size, 0, none⟩ = some (.slice none 0 0) ∧ w'.frozen? ⟨W.heap.size, 0, none⟩ = false) := Lib.hid fun W => refNew_any W
    clear h hz hT hU hM hn' h0
    go_enter Tryz.func10, Tryz.ntmps10
    go_wp2_with fail
    refine (HPK.out _).mono ?_
    rintro e w' ⟨rfl, rfl⟩
    go_wp2_with fail
    refine HNW.out.mono ?_
    rintro e w1 ⟨rfl, hs1, hb1⟩
    go_wp2_with fail
    refine (HRN.out _).mono ?_
    rintro e w2 ⟨rfl, hb2, hc2, hf2⟩
    have hSl := lt_of_cell hs1.cell
    have H0 : Hid (∃ x c v xs ys, Two w w2 w.heap.size x c w1.heap.size v xs ys) := Lib.hid ⟨none, 0, .slice none 0 0, [], [], ⟨hs1.below hb2, (fun a b hb _ => absurd hb (by simp)), by simp, ⟨hc2, hf2, World.ownsRow_nil _ _ _ _, (fun e => by cases e), (fun _ => rfl), hb1.size⟩, List.Perm.refl _, by omega, (fun e => by cases e), (fun b off e => by cases e), Nat.le_refl _, hb1.trans (hb2.mono hb1.size)⟩⟩
    obtain ⟨S, hS⟩ : ∃ S, w.heap.size = S := ⟨_, rfl⟩
    obtain ⟨X, hX⟩ : ∃ X, w1.heap.size = X := ⟨_, rfl⟩
    rw [hS, hX] at H0 ⊢
    clear hs1 hb1 hb2 hc2 hf2 hSl HNW HRN HPK
    go_wp2
    go_loopw [11] (fun i wr => ∃ t : Nat, i = .int .i64 t ∧ t ≤ n ∧ Hid (∃ x c v xs ys, Two w wr S x c X v xs ys)) (fun i _ => n - (intOf i).toNat)
    case atStart => exact ⟨0, rfl, by omega, H0⟩
    case round =>
      clear H0
      obtain ⟨t, rfl, ht, HTW⟩ := hrel
      obtain ⟨x2, c2, v, xs, ys, hTw⟩ := HTW.out
      have HTW2 := Lib.hid hTw
      have HF := Lib.hid (sets_of_two hTw)
      clear HTW hTw
      by_cases hlt : t < n
      · have q1 : (0 : Int) ≤ t := by omega
        have q2 : (t : Int) < n := by omega
        by_cases h70 : t < 70
        · have q3 : (t : Int) < 70 := by omega
          have htx : t < ls.length := by rw [HN.out]; exact hlt
          have HLW := HL.out.below HTW2.out.below
          obtain ⟨bx, off, hxe, hxl, a0, a1, a2, a3, a4, a5⟩ := HL.out t htx
          have hzz := HZ.out _ (List.getElem_mem htx)
          have HLC : Hid (∀ W, Below w.heap.size w W → W.cell? ⟨bx, off + t * 6, none⟩ = some (.string ls[t].name) ∧ W.cell? ⟨bx, off + t * 6 + 1, none⟩ = some (.int .i64 ls[t].kind) ∧ W.cell? ⟨bx, off + t * 6 + 2, none⟩ = some (.string ls[t].dflt) ∧ W.cell? ⟨bx, off + t * 6 + 3, none⟩ = some (.int .i64 ls[t].least) ∧ W.cell? ⟨bx, off + t * 6 + 4, none⟩ = some (.int .i64 ls[t].most) ∧ W.cell? ⟨bx, off + t * 6 + 5, none⟩ = some (.string ls[t].letter)) := Lib.hid fun W hb =>
            ⟨(hb.cell (p := ⟨bx, _, none⟩) hxl).trans a0, (hb.cell (p := ⟨bx, _, none⟩) hxl).trans a1, (hb.cell (p := ⟨bx, _, none⟩) hxl).trans a2, (hb.cell (p := ⟨bx, _, none⟩) hxl).trans a3, (hb.cell (p := ⟨bx, _, none⟩) hxl).trans a4, (hb.cell (p := ⟨bx, _, none⟩) hxl).trans a5⟩
          generalize ls[t] = k at HLC hzz a0 a1 a2 a3 a4 a5
          obtain ⟨z1, z2, z3⟩ := hzz
          obtain ⟨hT, hU, hM⟩ := HT.out _ HTW2.out.below
          have HAD := Lib.hid (add_any xs k S x2 c2 wr HTW2.out.a HTW2.out.sorted HTW2.out.len hT hU hM (by omega) (by omega) (by omega))
          have HRA : Hid (∀ W, RefAt w.heap.size W X v ys → w.heap.size ≤ W.heap.size → Calls Tryz.prog 36 #[.pointer (some ⟨X, 0, none⟩), kAgg k] W fun e w' => e = .returned (.int .i64 (addE xs k)) ∧ ∃ v', RefAt w.heap.size w' X v' (addR ys k) ∧ RFr X v W w' ∧ (v'.ownBlock = v.ownBlock ∨ ∃ g, v'.ownBlock = some g ∧ W.heap.size ≤ g)) := Lib.hid fun W hr hB => by
            have := refAdd_any w.heap.size ys k X v W hr (by have := HTW2.out.perm.length_eq; have := HTW2.out.len; omega) hB (by omega) (by omega) (by omega)
            rw [addE_perm HTW2.out.perm] at this
            exact this
          have HPM : Hid ((addR ys k).Perm (addK xs k) ∧ Sorted (addK xs k) ∧ (addK xs k).length ≤ 64) := Lib.hid ⟨addR_perm HTW2.out.perm k, addK_sorted k HTW2.out.sorted, addK_len xs k HTW2.out.len⟩
          have HVB : Hid (∀ g, v.ownBlock = some g → w.heap.size ≤ g) := Lib.hid fun g hg => (HTW2.out.b.own.lt g hg).1
          obtain ⟨E, hE⟩ : ∃ E, addE xs k = E := ⟨_, rfl⟩
          rw [hE] at HAD HRA
          obtain ⟨d0, d1, d2, d3, d4, d5⟩ := HLC.out wr HTW2.out.below
          obtain ⟨nm, kd, dl, la, lb, le⟩ := k
          unfold kAgg at HAD HRA
          simp only at HAD HRA HLC d0 d1 d2 d3 d4 d5
          subst hxe
          clear a0 a1 a2 a3 a4 a5 hT hU hM z1 z2 z3 hE htx HLW HF
          go_wp2_with fail
          refine HAD.out.mono ?_
          rintro e w3 ⟨rfl, hadd⟩
          obtain ⟨x3, c3, hs3, hr3, hrow3, hb3, hz3⟩ := HTW2.out.first hadd
          have HS3 := Lib.hid hs3
          have HR3 := Lib.hid hr3
          have HROW3 := Lib.hid hrow3
          have HB3 := Lib.hid hb3
          clear d0 d1 d2 d3 d4 d5 hadd hs3 hr3 hrow3 hb3 hz3 HAD
          obtain ⟨d0, d1, d2, d3, d4, d5⟩ := HLC.out w3 HB3.out
          go_wp2_with fail
          refine (HRA.out _ HR3.out HB3.out.size).mono ?_
          rintro e w4 ⟨rfl, v4, hr4, hf4, ho4⟩
          have HNX : Hid (∃ x c v xs ys, Two w w4 S x c X v xs ys) := Lib.hid ⟨_, _, _, _, _, HTW2.out.second HS3.out HROW3.out HB3.out hr4 hf4 ho4 HPM.out.2.1 HPM.out.2.2 HPM.out.1 HVB.out⟩
          clear d0 d1 d2 d3 d4 d5 hr4 hf4 ho4 HS3 HR3 HROW3 HB3 HRA HPM HVB HTW2
          go_wp2
          go_roundw
          case rel => exact ⟨t + 1, by go_num, by omega, HNX⟩
          case measure => simp [intOf]; omega
        · have q3 : ¬ (t : Int) < 70 := by omega
          go_wp2
          go_ret3
          exact HF.out
      · have q2 : ¬ (t : Int) < n := by omega
        go_wp2
        go_ret3
        exact HF.out
end Go.Proofs.YtbgoooljkdjjhaaGreatDoor
