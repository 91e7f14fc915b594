/-
  The walks of the law's 'lent' and 'whole': a value in its owner's memory, two words behind it.
-/
import Derived.Test.YtolibkcdfhbdiaaDoorValueRefSame
import Derived.Test.YtolibkcdfhbdiaaDoorMarks
import Derived.Test.YtolibkcdfhbdiaaDoorValueRefParse
import Derived.Laws.MakeOwn
import Derived.Laws.CopyOwn
namespace Go.Proofs.YtolibkcdfhbdiaaDoor
open Go.ChangeShapes Go.WideShapes Go.ChangeAt Go.RowKit

def spareT : ByteArray := ⟨#[115, 112, 97, 114, 101]⟩
/-- The row of a value that is lent. -/
def LentAt (w : World) (g : Nat) (xs : List ByteArray) : Prop := ∃ cur, w.heap[g]? = some (Obj.cells cur 9 (0, 0)) ∧ cur.size = xs.length + 2 ∧ (∀ k (h : k < xs.length), cur[k]? = some (.string xs[k])) ∧ cur[xs.length]? = some (.string spareT) ∧ cur[xs.length + 1]? = some (.string ⟨#[]⟩)
theorem LentAt.lt {w : World} {g : Nat} {xs : List ByteArray} (h : LentAt w g xs) : g < w.heap.size := by obtain ⟨_, h, _⟩ := h; exact heap_lt h
theorem LentAt.below {w w' : World} {g : Nat} {xs : List ByteArray} (h : LentAt w g xs) (hb : Below w.heap.size w w') : LentAt w' g xs := by
  have hl := h.lt
  obtain ⟨cur, h1, h2⟩ := h
  exact ⟨cur, by rw [hb.block g hl]; exact h1, h2⟩
theorem LentAt.txts {w : World} {g : Nat} {xs : List ByteArray} (h : LentAt w g xs) : Txts w (some ⟨g, 0, none⟩) xs := fun k hk => by
  obtain ⟨cur, h1, _, h3, _⟩ := h
  exact ⟨g, 0, rfl, heap_lt h1, by rw [Nat.zero_add, cell_of_row w g k _ _ _ h1]; exact h3 k hk⟩
theorem made_empty (n : Nat) : madeCells (Value.string ByteArray.empty).cells (n * 1) = (List.replicate n (Value.string ByteArray.empty)).toArray := by
  unfold madeCells
  rw [Nat.mul_one]
  apply Array.ext
  · simp
  · intro i h1 h2
    simp [Value.cells, Nat.mod_one]
theorem run_madeL (w : World) (n : Nat) (hn : n ≤ 2147483649) :
    (Instr.makeSlice 23 (.int .i64 (n : Int)) (.int .i64 (n : Int))).run Tryd.prog w = .ok (.slice (some ⟨w.heap.size, 0, none⟩) n n) (w.alloc (Obj.cells (List.replicate n (Value.string ByteArray.empty)).toArray 9)) := by
  obtain ⟨i0, hi, hz0, hz1, hz2⟩ := info_parts infoStr
  have := run_make (P := Tryd.prog) w 23 9 i0 (.string ByteArray.empty) Tryd.underlying23 hi hz0 .i64 .i64 (n : Int) (n : Int) (by omega) (by omega) (by rw [hz2]; omega) (by omega)
  rw [hz1, Int.toNat_natCast, made_empty] at this
  exact this

theorem frozen_row {w : World} {g : Nat} {cur : Array Value} {t : TypeId} (h : w.heap[g]? = some (Obj.cells cur t (0, 0))) (j : Nat) : w.frozen? ⟨g, j, none⟩ = false := by simp [World.frozen?, h]
theorem splice_facts (cs : List Value) (N : Nat) (h : cs.length = N) (e : Value) : (splice (List.replicate (N + 2) e) 0 cs).toArray.size = N + 2 ∧ (∀ k, k < N → (splice (List.replicate (N + 2) e) 0 cs).toArray[k]? = cs[k]?) ∧ (splice (List.replicate (N + 2) e) 0 cs).toArray[N]? = some e ∧ (splice (List.replicate (N + 2) e) 0 cs).toArray[N + 1]? = some e := by
  have hs : splice (List.replicate (N + 2) e) 0 cs = cs ++ List.replicate 2 e := by
    unfold splice
    rw [List.take_zero, List.nil_append, Nat.zero_add, h, List.drop_replicate, show N + 2 - N = 2 by omega]
  rw [hs]
  subst h
  refine ⟨by simp, fun k hk => ?_, ?_, ?_⟩
  · rw [List.getElem?_toArray, List.getElem?_append_left hk]
  · rw [List.getElem?_toArray, List.getElem?_append_right (by omega), Nat.sub_self]; rfl
  · rw [List.getElem?_toArray, List.getElem?_append_right (by omega), show cs.length + 1 - cs.length = 1 by omega]; rfl
/-- What the last stores of 'lent' leave. -/
theorem lent_end {w w0 w2 : World} {R N : Nat} {xs : List ByteArray} (hR : w.heap.size ≤ R) (hb0 : Below w.heap.size w w0) (hb2 : Below (R + 1 + 1) w0 w2) (hN : xs.length = N)
    (hrow : w2.heap[R + 1 + 1]? = some (Obj.cells (splice (List.replicate (N + 2) (Value.string ByteArray.empty)) 0 (xs.map Value.string)).toArray 9 (0, 0))) (hz : zero4 w2 (R + 1)) (u a b c d : Value) :
    LentAt ((((((w2.setCell ⟨R + 1 + 1, N, none⟩ (.string spareT)).setCell ⟨R, 3, none⟩ u).setCell ⟨R + 1, 0, none⟩ a).setCell ⟨R + 1, 1, none⟩ b).setCell ⟨R + 1, 2, none⟩ c).setCell ⟨R + 1, 3, none⟩ d) (R + 1 + 1) xs ∧
    Below w.heap.size w ((((((w2.setCell ⟨R + 1 + 1, N, none⟩ (.string spareT)).setCell ⟨R, 3, none⟩ u).setCell ⟨R + 1, 0, none⟩ a).setCell ⟨R + 1, 1, none⟩ b).setCell ⟨R + 1, 2, none⟩ c).setCell ⟨R + 1, 3, none⟩ d) ∧
    Box4 ((((((w2.setCell ⟨R + 1 + 1, N, none⟩ (.string spareT)).setCell ⟨R, 3, none⟩ u).setCell ⟨R + 1, 0, none⟩ a).setCell ⟨R + 1, 1, none⟩ b).setCell ⟨R + 1, 2, none⟩ c).setCell ⟨R + 1, 3, none⟩ d) (R + 1) a b c d := by
  obtain ⟨s1, s2, s3, s4⟩ := splice_facts (xs.map Value.string) N (by rw [List.length_map]; exact hN) (.string ByteArray.empty)
  have hb := hb0.trans (hb2.mono (by omega : w.heap.size ≤ R + 1 + 1))
  refine ⟨⟨(splice (List.replicate (N + 2) (Value.string ByteArray.empty)) 0 (xs.map Value.string)).toArray.setIfInBounds N (.string spareT), ?_, ?_, ?_, ?_, ?_⟩, (((((hb.setCell (p := ⟨R + 1 + 1, N, none⟩) (by show w.heap.size ≤ R + 1 + 1; omega) _).setCell (p := ⟨R, 3, none⟩) hR _).setCell (p := ⟨R + 1, 0, none⟩) (by show w.heap.size ≤ R + 1; omega) _).setCell (p := ⟨R + 1, 1, none⟩) (by show w.heap.size ≤ R + 1; omega) _).setCell (p := ⟨R + 1, 2, none⟩) (by show w.heap.size ≤ R + 1; omega) _).setCell (p := ⟨R + 1, 3, none⟩) (by show w.heap.size ≤ R + 1; omega) _, (((hz.apart (by omega) N _).apart (by omega) 3 _).set4 _ _ _ _)⟩
  · rw [Below.heap_setCell _ ⟨R + 1, 3, none⟩ _ _ (by show R + 1 + 1 ≠ R + 1; omega), Below.heap_setCell _ ⟨R + 1, 2, none⟩ _ _ (by show R + 1 + 1 ≠ R + 1; omega), Below.heap_setCell _ ⟨R + 1, 1, none⟩ _ _ (by show R + 1 + 1 ≠ R + 1; omega), Below.heap_setCell _ ⟨R + 1, 0, none⟩ _ _ (by show R + 1 + 1 ≠ R + 1; omega), Below.heap_setCell _ ⟨R, 3, none⟩ _ _ (by show R + 1 + 1 ≠ R; omega)]
    simp [World.setCell, Array.getElem?_modify, hrow]
  · rw [Array.size_setIfInBounds, s1, hN]
  · intro k hk
    rw [Array.getElem?_setIfInBounds, if_neg (by omega), s2 k (by omega)]; simp [hk]
  · rw [Array.getElem?_setIfInBounds, hN, if_pos rfl, if_pos (by omega)]
  · rw [Array.getElem?_setIfInBounds, if_neg (by omega), hN]; exact s4
theorem sizeStr : (Tryd.prog.info? 9).map (·.size) = some 1 := by kernel_rfl

set_option maxHeartbeats 3200000 in
set_option maxRecDepth 100000 in
theorem lent_any (w : World) (v : Val) (x : Option Addr) (c : Nat) (h : ArgOk w v x c) (hl : v.words.length ≤ 2147483647) :
    Calls Tryd.prog 17 #[argV v x c] w fun e w' => ∃ g, e = .returned (argV v (some ⟨g, 0, none⟩) (v.words.length + 2)) ∧ w.heap.size ≤ g ∧ LentAt w' g v.words ∧ Below w.heap.size w w' := by
  unfold argV
  obtain ⟨k, n, t, xs⟩ := v
  have HT : Hid (∀ w', Below w.heap.size w w' → Txts w' x xs) := Lib.hid fun w' hb => h.list.below hb
  clear h
  simp only at hl ⊢
  obtain ⟨N, hN⟩ : ∃ N, xs.length = N := ⟨_, rfl⟩
  have HN := Lib.hid hN
  rw [hN] at hl ⊢
  clear hN
  have hmk : ∀ W : World, (Instr.makeSlice 23 (.int .i64 ((N : Int) + 2)) (.int .i64 ((N : Int) + 2))).run Tryd.prog W = .ok (.slice (some ⟨W.heap.size, 0, none⟩) (N + 2) (N + 2)) (W.alloc (Obj.cells (Array.replicate (N + 2) (Value.string ByteArray.empty)) 9)) := fun W => by
    have := run_madeL W (N + 2) (by omega)
    rw [List.toArray_replicate] at this
    exact this
  have HW0 : Hid (∀ p q, Below w.heap.size w (((w.alloc (Obj.cells #[.int .i64 k, .int .i64 n, .string t, .slice x N c] p)).alloc (Obj.cells #[.int .i64 0, .int .i64 0, .string ⟨#[]⟩, .slice none 0 0] q)).alloc (Obj.cells (Array.replicate (N + 2) (Value.string ByteArray.empty)) 9)) ∧
      Box4 (((w.alloc (Obj.cells #[.int .i64 k, .int .i64 n, .string t, .slice x N c] p)).alloc (Obj.cells #[.int .i64 0, .int .i64 0, .string ⟨#[]⟩, .slice none 0 0] q)).alloc (Obj.cells (Array.replicate (N + 2) (Value.string ByteArray.empty)) 9)) w.heap.size (.int .i64 k) (.int .i64 n) (.string t) (.slice x N c) ∧
      zero4 (((w.alloc (Obj.cells #[.int .i64 k, .int .i64 n, .string t, .slice x N c] p)).alloc (Obj.cells #[.int .i64 0, .int .i64 0, .string ⟨#[]⟩, .slice none 0 0] q)).alloc (Obj.cells (Array.replicate (N + 2) (Value.string ByteArray.empty)) 9)) (w.heap.size + 1) ∧
      (((w.alloc (Obj.cells #[.int .i64 k, .int .i64 n, .string t, .slice x N c] p)).alloc (Obj.cells #[.int .i64 0, .int .i64 0, .string ⟨#[]⟩, .slice none 0 0] q)).alloc (Obj.cells (Array.replicate (N + 2) (Value.string ByteArray.empty)) 9)).heap[w.heap.size + 1 + 1]? = some (Obj.cells (List.replicate (N + 2) (Value.string ByteArray.empty)).toArray 9 (0, 0))) := Lib.hid fun p q => by
    have b1 := below_one w (Obj.cells #[.int .i64 k, .int .i64 n, .string t, .slice x N c] p)
    have b2 := below_one (w.alloc (Obj.cells #[.int .i64 k, .int .i64 n, .string t, .slice x N c] p)) (Obj.cells #[.int .i64 0, .int .i64 0, .string ⟨#[]⟩, .slice none 0 0] q)
    have b3 := below_one ((w.alloc (Obj.cells #[.int .i64 k, .int .i64 n, .string t, .slice x N c] p)).alloc (Obj.cells #[.int .i64 0, .int .i64 0, .string ⟨#[]⟩, .slice none 0 0] q)) (Obj.cells (Array.replicate (N + 2) (Value.string ByteArray.empty)) 9)
    refine ⟨(b1.trans (b2.mono b1.size)).trans (b3.mono (Nat.le_trans b1.size b2.size)), ((box4_new w _ _ _ _ p).below b2).below b3, ?_, ?_⟩
    · have := (box4_new (w.alloc (Obj.cells #[.int .i64 k, .int .i64 n, .string t, .slice x N c] p)) (.int .i64 0) (.int .i64 0) (.string ⟨#[]⟩) (.slice none 0 0) q).below b3
      rw [World.size_alloc] at this; exact this
    · have := heap_alloc_new ((w.alloc (Obj.cells #[.int .i64 k, .int .i64 n, .string t, .slice x N c] p)).alloc (Obj.cells #[.int .i64 0, .int .i64 0, .string ⟨#[]⟩, .slice none 0 0] q)) (Obj.cells (Array.replicate (N + 2) (Value.string ByteArray.empty)) 9)
      rw [World.size_alloc, World.size_alloc] at this
      rw [List.toArray_replicate]; exact this
  have HCS : Hid ((xs.map Value.string).length = Nat.min N (N + 2)) := Lib.hid (by rw [List.length_map, HN.out]; exact (Nat.min_eq_left (by omega)).symm)
  have HON : Hid (∀ u ∈ xs.map Value.string, u.oneCell' = true) := Lib.hid (by
    intro u hu
    obtain ⟨s, _, rfl⟩ := List.mem_map.1 hu
    rfl)
  have HFT : Hid (0 + (xs.map Value.string).length ≤ (List.replicate (N + 2) (Value.string ByteArray.empty)).length) := Lib.hid (by rw [List.length_map, HN.out, List.length_replicate]; omega)
  have HPS : Hid (∀ W : World, Below w.heap.size w W → ∀ G : Nat, 0 < (xs.map Value.string).length → (some ⟨G, 0, none⟩ : Option Addr) = some ⟨G, 0, none⟩ ∧ ∃ ad, x = some ad ∧ ∀ j v, (xs.map Value.string)[j]? = some v → W.cell? (ad.add j) = some v) := Lib.hid fun W hb G hp => by
    rw [List.length_map] at hp
    obtain ⟨b, off, e, hl, hc⟩ := (HT.out W hb).one hp
    refine ⟨rfl, _, e, fun j v hj => ?_⟩
    rw [show (⟨b, off, none⟩ : Addr).add j = ⟨b, off + j, none⟩ by unfold Addr.add; split <;> simp_all]
    have hj' : j < xs.length := by
      rcases Nat.lt_or_ge j xs.length with h | h
      · exact h
      · rw [List.getElem?_eq_none (by simpa using h)] at hj; cases hj
    rw [hc j hj']
    simpa [hj'] using hj
  go_enter Tryd.func17, Tryd.ntmps17
  go_wp2_with (with_reducible refine wpList_copy_splice (o := ⟨some 12, _, _, _, _, _⟩) rfl (Operand.tmp 9) (Operand.tmp 11) 23 23 rfl 9 Tryd.underlying23 sizeStr (some ⟨w.heap.size + 1 + 1, 0, none⟩) x (N + 2) (N + 2) N c rfl rfl (w.heap.size + 1 + 1) 0 (List.replicate (N + 2) (Value.string ByteArray.empty)) 9 (HW0.out _ _).2.2.2 (xs.map Value.string) HCS.out (HPS.out _ (HW0.out _ _).1 _) HFT.out HON.out (w.heap.size + 1 + 1) _ (Below.refl _ _) (Nat.le_refl _) ?_; intro w2 hrow hb2; go_loud (have HB2 := Lib.hid hb2; obtain ⟨c0, c1, c2, c3, z0, z1, z2, z3⟩ := (HW0.out _ _).2.1.upto hb2 (by omega); obtain ⟨r0, r1, r2, r3, y0, y1, y2, y3⟩ := (HW0.out _ _).2.2.1.upto hb2 (by omega); have HF := Lib.hid (lent_end (Nat.le_refl _) (HW0.out _ _).1 hb2 HN.out hrow.out ((HW0.out _ _).2.2.1.upto hb2 (by omega))); have g4 : w2.cell? ⟨w.heap.size + 1 + 1, N, none⟩ = some (.string ByteArray.empty) := (cell_of_row w2 _ N _ _ _ hrow.out).trans (splice_facts (xs.map Value.string) N (by rw [List.length_map]; exact HN.out) (.string ByteArray.empty)).2.2.1; have f4 : w2.frozen? ⟨w.heap.size + 1 + 1, N, none⟩ = false := frozen_row hrow.out _); clear hb2)
  obtain ⟨l1, l2, l3⟩ := HF.out (.slice (some ⟨w.heap.size + 1 + 1, 0, none⟩) N (N + 2)) (.int .i64 k) (.int .i64 n) (.string t) (.slice (some ⟨w.heap.size + 1 + 1, 0, none⟩) N (N + 2))
  have HL1 := Lib.hid l1
  have HL2 := Lib.hid l2
  obtain ⟨g0, g1, g2, g3, _, _, _, _⟩ := l3
  unfold spareT at g0 g1 g2 g3
  clear l1 l2
  exact bodyPost_ret (v := .agg #[.int .i64 k, .int .i64 n, .string t, .slice (some ⟨w.heap.size + 1 + 1, 0, none⟩) N (N + 2)]) (by simp [results, Tryd.results17, go_sem, g0, g1, g2, g3]) rfl ⟨_, rfl, by omega, HL1.out, HL2.out⟩

def overT : ByteArray := ⟨#[111, 118, 101, 114]⟩
/-- The row of a value that is written over. -/
def OverAt (w0 w : World) (g N : Nat) : Prop := w0.grownBy w (some g) ∧ ∃ cur, w.heap[g]? = some (Obj.cells cur 9 (0, 0)) ∧ cur.size = N + 2
theorem OverAt.set {w0 w : World} {g N : Nat} (h : OverAt w0 w g N) (k : Nat) (u : Value) : OverAt w0 (w.setCell ⟨g, k, none⟩ u) g N := by
  obtain ⟨h1, cur, h2, h3⟩ := h
  refine ⟨⟨h1.os, h1.tape, h1.output, by simpa [World.setCell] using h1.size, fun q hq hne => ?_⟩, cur.setIfInBounds k u, ?_, by simpa using h3⟩
  · rw [Below.heap_setCell _ ⟨g, k, none⟩ _ _ (by intro e; exact hne (by rw [e]))]; exact h1.block q hq hne
  · simp [World.setCell, Array.getElem?_modify, h2]
theorem OverAt.start {w0 w : World} {g : Nat} {xs : List ByteArray} (h : LentAt w g xs) (hb : Below w0.heap.size w0 w) : OverAt w0 w g xs.length := by
  obtain ⟨cur, h1, h2, _⟩ := h
  exact ⟨⟨hb.os, hb.tape, hb.output, hb.size, fun q hq _ => hb.block q hq⟩, cur, h1, h2⟩

set_option maxHeartbeats 3200000 in
set_option maxRecDepth 100000 in
theorem whole_any (w : World) (v : Val) (g : Nat) (x : Option Addr) (c : Nat) (hg : LentAt w g v.words) (h : ArgOk w v x c) (hl : v.words.length ≤ 2147483647) :
    Calls Tryd.prog 21 #[argV v (some ⟨g, 0, none⟩) (v.words.length + 2), argV v x c] w fun e w' => e = .returned (.bool true) ∧ w.grownBy w' (some g) := by
  have HG := Lib.hid hg
  have HA := Lib.hid h
  have HO : ArgOk w v (some ⟨g, 0, none⟩) (v.words.length + 2) := ⟨hg.txts, by omega, h.len, h.sizes, h.text⟩
  have HBX : Hid (∀ p q, Below w.heap.size w ((w.alloc (.cells #[.int .i64 v.kind, .int .i64 v.int, .string v.text, .slice (some ⟨g, 0, none⟩) v.words.length (v.words.length + 2)] p)).alloc (.cells #[.int .i64 v.kind, .int .i64 v.int, .string v.text, .slice x v.words.length c] q)) ∧
      Box4 ((w.alloc (.cells #[.int .i64 v.kind, .int .i64 v.int, .string v.text, .slice (some ⟨g, 0, none⟩) v.words.length (v.words.length + 2)] p)).alloc (.cells #[.int .i64 v.kind, .int .i64 v.int, .string v.text, .slice x v.words.length c] q)) w.heap.size (.int .i64 v.kind) (.int .i64 v.int) (.string v.text) (.slice (some ⟨g, 0, none⟩) v.words.length (v.words.length + 2)) ∧
      Box4 ((w.alloc (.cells #[.int .i64 v.kind, .int .i64 v.int, .string v.text, .slice (some ⟨g, 0, none⟩) v.words.length (v.words.length + 2)] p)).alloc (.cells #[.int .i64 v.kind, .int .i64 v.int, .string v.text, .slice x v.words.length c] q)) (w.heap.size + 1) (.int .i64 v.kind) (.int .i64 v.int) (.string v.text) (.slice x v.words.length c)) := Lib.hid fun p q => by
    have b1 := below_one w (Obj.cells #[.int .i64 v.kind, .int .i64 v.int, .string v.text, .slice (some ⟨g, 0, none⟩) v.words.length (v.words.length + 2)] p)
    have b2 := below_one (w.alloc (Obj.cells #[.int .i64 v.kind, .int .i64 v.int, .string v.text, .slice (some ⟨g, 0, none⟩) v.words.length (v.words.length + 2)] p)) (Obj.cells #[.int .i64 v.kind, .int .i64 v.int, .string v.text, .slice x v.words.length c] q)
    refine ⟨b1.trans (b2.mono b1.size), (box4_new w _ _ _ _ p).below b2, ?_⟩
    have := box4_new (w.alloc (Obj.cells #[.int .i64 v.kind, .int .i64 v.int, .string v.text, .slice (some ⟨g, 0, none⟩) v.words.length (v.words.length + 2)] p)) (.int .i64 v.kind) (.int .i64 v.int) (.string v.text) (.slice x v.words.length c) q
    rw [World.size_alloc] at this; exact this
  have HSC : Hid (∀ p q, Calls Tryd.prog 14 #[.agg #[.int .i64 v.kind, .int .i64 v.int, .string v.text, .slice (some ⟨g, 0, none⟩) v.words.length (v.words.length + 2)], .agg #[.int .i64 v.kind, .int .i64 v.int, .string v.text, .slice x v.words.length c]] ((w.alloc (.cells #[.int .i64 v.kind, .int .i64 v.int, .string v.text, .slice (some ⟨g, 0, none⟩) v.words.length (v.words.length + 2)] p)).alloc (.cells #[.int .i64 v.kind, .int .i64 v.int, .string v.text, .slice x v.words.length c] q)) fun e w' => e = .returned (.bool true) ∧ Below ((w.alloc (.cells #[.int .i64 v.kind, .int .i64 v.int, .string v.text, .slice (some ⟨g, 0, none⟩) v.words.length (v.words.length + 2)] p)).alloc (.cells #[.int .i64 v.kind, .int .i64 v.int, .string v.text, .slice x v.words.length c] q)).heap.size ((w.alloc (.cells #[.int .i64 v.kind, .int .i64 v.int, .string v.text, .slice (some ⟨g, 0, none⟩) v.words.length (v.words.length + 2)] p)).alloc (.cells #[.int .i64 v.kind, .int .i64 v.int, .string v.text, .slice x v.words.length c] q)) w') := Lib.hid fun p q => by
    have := refSame_any ((w.alloc (.cells #[.int .i64 v.kind, .int .i64 v.int, .string v.text, .slice (some ⟨g, 0, none⟩) v.words.length (v.words.length + 2)] p)).alloc (.cells #[.int .i64 v.kind, .int .i64 v.int, .string v.text, .slice x v.words.length c] q)) v v (some ⟨g, 0, none⟩) x (v.words.length + 2) c (HO.below (HBX.out p q).1) (h.below (HBX.out p q).1)
    rw [show sameV v v = true by simp [sameV]] at this
    exact this
  clear hg h HO
  unfold argV
  obtain ⟨k, n, t, xs⟩ := v
  simp only at HBX HSC hl HG ⊢
  obtain ⟨N, hN⟩ : ∃ N, xs.length = N := ⟨_, rfl⟩
  have HN := Lib.hid hN
  rw [hN] at HBX HSC hl ⊢
  clear hN HA
  go_enter Tryd.func21, Tryd.ntmps21
  go_wp2_with fail
  refine (HSC.out _ _).mono ?_
  rintro e w1 ⟨rfl, hb⟩
  have HB := Lib.hid ((HBX.out 29 29).1.trans (hb.mono (HBX.out 29 29).1.size))
  obtain ⟨a0, a1, a2, a3, _, _, _, _⟩ := (HBX.out 29 29).2.1.below hb
  obtain ⟨b0, b1, b2, b3, _, _, _, _⟩ := (HBX.out 29 29).2.2.below hb
  clear hb
  have hL := HG.out.below HB.out
  have HOV := Lib.hid (OverAt.start hL HB.out)
  have hl1 := hL
  obtain ⟨cur, hc1, hc2, hc3, hc4, hc5⟩ := hl1
  have e4 : w1.cell? ⟨g, N, none⟩ = some (.string ⟨#[115, 112, 97, 114, 101]⟩) := (cell_of_row w1 g N _ _ _ hc1).trans (by rw [← HN.out]; exact hc4)
  have e5 : w1.cell? ⟨g, N + 1, none⟩ = some (.string ⟨#[]⟩) := (cell_of_row w1 g (N + 1) _ _ _ hc1).trans (by rw [← HN.out]; exact hc5)
  have hgl := hL.lt
  clear hL hc1 hc2 hc3 hc4 hc5 cur
  rw [HN.out] at HOV
  go_wp2
  go_loopw [7] (fun i wr => ∃ q : Nat, i = .int .i64 q ∧ q ≤ N + 2 ∧ Hid (OverAt w wr g N)) (fun i _ => N + 2 - (intOf i).toNat)
  case atStart => exact ⟨0, rfl, by omega, HOV⟩
  case round =>
    clear HOV a0 a1 a2 a3 b0 b1 b2 b3 e4 e5
    obtain ⟨q, rfl, hq, HOV⟩ := hrel
    by_cases hlt : q < N + 2
    · obtain ⟨cv, hcv⟩ : ∃ cv, wr.cell? ⟨g, q, none⟩ = some cv := by
        obtain ⟨_, cur, h2, h3⟩ := HOV.out
        exact ⟨cur[q]'(by omega), by rw [cell_of_row wr g q _ _ _ h2]; simp⟩
      have hfz : wr.frozen? ⟨g, q, none⟩ = false := by
        obtain ⟨_, cur, h2, _⟩ := HOV.out
        exact frozen_row h2 q
      have q1 : (0 : Int) ≤ q := by omega
      have q2 : (q : Int) < N + 2 := by omega
      have HN2 := Lib.hid (HOV.out.set q (.string overT))
      unfold overT at HN2
      go_wp2
      go_roundw
      case rel => exact ⟨q + 1, by go_num, by omega, HN2⟩
      case measure => simp [intOf]; omega
    · have q2 : ¬ (q : Int) < N + 2 := by omega
      go_wp2
      go_ret
      exact ⟨rfl, HOV.out.1⟩
end Go.Proofs.YtolibkcdfhbdiaaDoor
