/-
  The walk of the law ValueParses.
-/
import Derived.Test.YtolibkcdfhbdiaaDoorValueOwned
import Derived.Test.YtolibkcdfhbdiaaDoorValueStands0
import Derived.Test.YtolibkcdfhbdiaaDoorValueRefParse
import Derived.Test.YtolibkcdfhbdiaaDoorValueRefSame
import Derived.Test.YtolibkcdfhbdiaaDoorValueWeigh
import Derived.Test.YtolibkcdfhbdiaaDoorValueAll
namespace Go.Proofs.YtolibkcdfhbdiaaDoor
open Go.ChangeShapes Go.WideShapes Go.ChangeAt Go.RowKit

/-- What is asked in a round. -/
def KK (kd : Int) (k : Nat) : Int := if k = 2 ∨ k = 3 then 6 else kd
def SS (s o : ByteArray) (k : Nat) : ByteArray := if k = 1 ∨ k = 3 then o else s
def kcs (kd : Int) : Array Value := #[.int .i64 kd, .int .i64 kd, .int .i64 6, .int .i64 6, .int .i64 kd]
def scs (s o : ByteArray) : Array Value := #[.string s, .string o, .string s, .string o, .string s]
theorem kcs_at (kd : Int) {k : Nat} (hk : k < 5) : (kcs kd)[k]? = some (.int .i64 (KK kd k)) := by
  rcases k with _ | _ | _ | _ | _ | k
  all_goals first | rfl | omega
theorem scs_at (s o : ByteArray) {k : Nat} (hk : k < 5) : (scs s o)[k]? = some (.string (SS s o k)) := by
  rcases k with _ | _ | _ | _ | _ | k
  all_goals first | rfl | omega

/-- The head of a round. -/
structure PS (w0 w : World) (K Q : Nat) (kd : Int) (s o : ByteArray) (k : Nat) (l wt : Value) (X : Nat → Option Addr) (C : Nat → Nat) (F : Nat → List ByteArray) (Y : Nat → Option Addr) (D : Nat → Nat) (col : Nat → Nat) : Prop where
  below : Below w0.heap.size w0 w
  kb : w.heap[K]? = some (Obj.cells (kcs kd) 3 (0, 0))
  qb : w.heap[Q]? = some (Obj.cells (scs s o) 9 (0, 0))
  lo : w.ownsRow w0.heap.size 23 1 l k ((List.range k).map (lv X F C))
  wo : w.ownsRow w0.heap.size 23 1 wt k ((List.range k).map (lv Y F D))
  apart : ∀ g, l.ownBlock = some g → wt.ownBlock ≠ some g
  own : ∀ j, j < k → OwnT w0.heap.size w (X j) (C j) (F j)
  col : ∀ j, j < k → ∀ g, X j = some ⟨g, 0, none⟩ → col g = j
  txt : ∀ j, j < k → Txts w (Y j) (F j)
  tap : ∀ j, j < k → 0 < (F j).length → ∀ b off, Y j = some ⟨b, off, none⟩ → l.ownBlock ≠ some b ∧ wt.ownBlock ≠ some b
  len : ∀ j, j < k → (F j).length ≤ 16
section
variable {w0 w w' : World} {K Q : Nat} {kd : Int} {s o : ByteArray} {k : Nat} {l wt : Value} {X : Nat → Option Addr} {C : Nat → Nat} {F : Nat → List ByteArray} {Y : Nat → Option Addr} {D : Nat → Nat} {col : Nat → Nat}
theorem OwnT.below {B : Nat} {x : Option Addr} {c : Nat} {xs : List ByteArray} (h : OwnT B w x c xs) (hb : Below w.heap.size w w') : OwnT B w' x c xs := by
  rcases h with h | ⟨g, h1, h2, h3, h4, h5⟩
  · exact Or.inl h
  · exact Or.inr ⟨g, h1, h2, h3, h4, by rw [hb.block g (heap_lt h5)]; exact h5⟩
theorem OwnT.mono {B B' : Nat} {x : Option Addr} {c : Nat} {xs : List ByteArray} (h : OwnT B w x c xs) (hB : B' ≤ B) : OwnT B' w x c xs := by
  rcases h with h | ⟨g, h1, h2, h3⟩
  · exact Or.inl h
  · exact Or.inr ⟨g, h1, Nat.le_trans hB h2, h3⟩
theorem ownsRow_below {B : Nat} {e : TypeId} {sz n : Nat} {v : Value} {xs : List Value} (h : w.ownsRow B e sz v n xs) (hb : Below w.heap.size w w') : w'.ownsRow B e sz v n xs := by
  refine ⟨h.1, ?_⟩
  rcases h.2 with h1 | ⟨g, cap, cur, h1, h2, h3, h4⟩
  · exact .inl h1
  · exact .inr ⟨g, cap, cur, h1, h2, by rw [hb.block g (heap_lt h3)]; exact h3, h4⟩
theorem PS.below' (h : PS w0 w K Q kd s o k l wt X C F Y D col) (hb : Below w.heap.size w w') : PS w0 w' K Q kd s o k l wt X C F Y D col :=
  ⟨h.below.trans (hb.mono h.below.size), by rw [hb.block K (heap_lt h.kb)]; exact h.kb, by rw [hb.block Q (heap_lt h.qb)]; exact h.qb, ownsRow_below h.lo hb, ownsRow_below h.wo hb, h.apart, fun j hj => (h.own j hj).below hb, h.col, fun j hj => (h.txt j hj).below hb, h.tap, h.len⟩
theorem grown_list {B n : Nat} {v : Value} {vs : List Value} (h : w.ownsRow B 23 1 v n vs) (hg : w.grownBy w' v.ownBlock) {g : Nat} {cs : Array Value} {t : TypeId} {fr : Nat × Nat} (ht : t ≠ 23) (hc : w.heap[g]? = some (Obj.cells cs t fr)) : w'.heap[g]? = some (Obj.cells cs t fr) := by
  rw [hg.block g (heap_lt hc) ?_]; · exact hc
  intro hk
  rcases h.2 with ⟨rfl, _⟩ | ⟨g', cap, cur', rfl, _, hh, _⟩
  · simp [Value.ownBlock] at hk
  · have : g = g' := by simpa [Value.ownBlock] using hk
    subst this
    rw [hh] at hc
    injection hc with hc
    injection hc with _ ht' _
    exact ht ht'.symm
/-- One list grew: what else stands there. -/
theorem OwnT.grown {B B2 n : Nat} {v : Value} {vs : List Value} (h : w.ownsRow B 23 1 v n vs) (hg : w.grownBy w' v.ownBlock) {x : Option Addr} {c : Nat} {xs : List ByteArray} (hx : OwnT B2 w x c xs) : OwnT B2 w' x c xs := by
  rcases hx with hx | ⟨g, h1, h2, h3, h4, h5⟩
  · exact Or.inl hx
  · exact Or.inr ⟨g, h1, h2, h3, h4, grown_list h hg (by decide) h5⟩
theorem Txts.grown {v : Value} (hg : w.grownBy w' v.ownBlock) {x : Option Addr} {xs : List ByteArray} (hx : Txts w x xs) (hn : 0 < xs.length → ∀ b off, x = some ⟨b, off, none⟩ → v.ownBlock ≠ some b) : Txts w' x xs := fun j hj => by
  obtain ⟨b, off, e, hl, hc⟩ := hx j hj
  exact ⟨b, off, e, Nat.lt_of_lt_of_le hl hg.size, by rw [hg.cell_far ⟨b, off + j, none⟩ hl (fun h => hn (by omega) b off e h.symm)]; exact hc⟩
theorem range_snoc (f g : Nat → Value) (k : Nat) (h : ∀ j, j < k → f j = g j) : (List.range (k + 1)).map g = (List.range k).map f ++ [g k] := by
  rw [List.range_succ, List.map_append]
  congr 1
  exact List.map_congr_left fun j hj => (h j (List.mem_range.1 hj)).symm
theorem grownBy_alloc_of {o1 : Obj} {row : Option Nat} (hg : (w.alloc o1).grownBy w' row) : w.grownBy w' row :=
  ⟨hg.os, hg.tape, hg.output, Nat.le_trans (below_one w o1).size hg.size, fun k hk hne => (hg.block k (Nat.lt_of_lt_of_le hk (below_one w o1).size) hne).trans ((below_one w o1).block k hk)⟩
/-- A round more. -/
theorem PS.push (h : PS w0 w K Q kd s o k l wt X C F Y D col) {w5 w6 w7 : World} (hb : Below w.heap.size w w5) {x y : Option Addr} {c d : Nat} {f : List ByteArray} (hx : OwnT w.heap.size w5 x c f) (hy : Txts w5 y f) (hyb : ∀ b off, y = some ⟨b, off, none⟩ → w.heap.size ≤ b) (hf : f.length ≤ 16)
    {o1 o2 : Obj} {g1 c1 g2 c2 : Nat} (ho1 : w6.ownsRow w0.heap.size 23 1 (.slice (some ⟨g1, 0, none⟩) (k + 1) c1) (k + 1) ((List.range k).map (lv X F C) ++ [.slice x f.length c])) (hg1 : (w5.alloc o1).grownBy w6 l.ownBlock) (hl1 : l.ownBlock = some g1 ∨ w5.heap.size ≤ g1)
    (ho2 : w7.ownsRow w0.heap.size 23 1 (.slice (some ⟨g2, 0, none⟩) (k + 1) c2) (k + 1) ((List.range k).map (lv Y F D) ++ [.slice y f.length d])) (hg2 : (w6.alloc o2).grownBy w7 wt.ownBlock) (hl2 : wt.ownBlock = some g2 ∨ w6.heap.size ≤ g2) (hg1l : g1 < w6.heap.size) :
    ∃ X C F Y D col, PS w0 w7 K Q kd s o (k + 1) (.slice (some ⟨g1, 0, none⟩) (k + 1) c1) (.slice (some ⟨g2, 0, none⟩) (k + 1) c2) X C F Y D col := by
  have h5 := h.below' hb
  have e1 := grownBy_alloc_of hg1
  have e2 := grownBy_alloc_of hg2
  have hwt6 : w6.ownsRow w0.heap.size 23 1 wt k ((List.range k).map (lv Y F D)) := h5.wo.kept e1 (by
    cases hq : wt.ownBlock with
    | none => exact .inl rfl
    | some g => exact .inr fun he => h.apart g he.symm hq)
  have hsz5 := hb.size
  have hsz6 := e1.size
  have hsz7 := e2.size
  have hll : ∀ g, l.ownBlock = some g → g < w.heap.size := fun g hg => (World.ownsRow.lt h.lo g hg).2
  have hwl : ∀ g, wt.ownBlock = some g → g < w.heap.size := fun g hg => (World.ownsRow.lt h.wo g hg).2
  have hB0 := h.below.size
  have b5 := h5.below
  have b6 : Below w0.heap.size w0 w6 := b5.grown e1 (Nat.le_trans hB0 hsz5 |> fun _ => b5.size) (fun g hg => (World.ownsRow.lt h.lo g hg).1)
  have b7 : Below w0.heap.size w0 w7 := b6.grown e2 b6.size (fun g hg => (World.ownsRow.lt h.wo g hg).1)
  have kb7 := grown_list hwt6 e2 (by decide) (grown_list h5.lo e1 (by decide) h5.kb)
  have qb7 := grown_list hwt6 e2 (by decide) (grown_list h5.lo e1 (by decide) h5.qb)
  have hap : g1 ≠ g2 := by
    rintro rfl
    rcases hl1 with h1 | h1
    · rcases hl2 with h2 | h2
      · exact h.apart g1 h1 h2
      · have := hll g1 h1; omega
    · rcases hl2 with h2 | h2
      · have := hwl g1 h2; omega
      · omega
  have hyl : 0 < f.length → ∀ b off, y = some ⟨b, off, none⟩ → b < w5.heap.size := fun hp b off e => by
    obtain ⟨b', off', e', hl, _⟩ := hy 0 hp
    rw [e] at e'
    have : b = b' := by injection e' with e'; injection e'
    omega
  refine ⟨fun j => if j = k then x else X j, fun j => if j = k then c else C j, fun j => if j = k then f else F j, fun j => if j = k then y else Y j, fun j => if j = k then d else D j, fun g => if w.heap.size ≤ g then k else col g, b7, kb7, qb7, ?_, ?_, ?_, ?_, ?_, ?_, ?_, ?_⟩
  · rw [range_snoc (lv X F C) _ k (fun j hj => by unfold lv; simp only [if_neg (show ¬ j = k by omega)])]
    have : lv (fun j => if j = k then x else X j) (fun j => if j = k then f else F j) (fun j => if j = k then c else C j) k = .slice x f.length c := by unfold lv; simp
    rw [this]
    refine ho1.kept e2 ?_
    cases hq : wt.ownBlock with
    | none => exact .inr (by simp [Value.ownBlock])
    | some g => exact .inr (fun he => by
        have he : g1 = g := by simpa [Value.ownBlock] using he
        subst he
        rcases hl1 with h1 | h1
        · exact h.apart _ h1 hq
        · have := hwl _ hq; omega)
  · rw [range_snoc (lv Y F D) _ k (fun j hj => by unfold lv; simp only [if_neg (show ¬ j = k by omega)])]
    have : lv (fun j => if j = k then y else Y j) (fun j => if j = k then f else F j) (fun j => if j = k then d else D j) k = .slice y f.length d := by unfold lv; simp
    rw [this]; exact ho2
  · intro g hg
    simp only [Value.ownBlock, Option.some.injEq] at hg ⊢
    subst hg
    exact fun he => hap (Option.some.inj he).symm
  · intro j hj
    by_cases e : j = k
    · simp only [if_pos e]
      exact ((hx.mono hB0).grown h5.lo e1).grown hwt6 e2
    · simp only [if_neg e]
      exact ((h5.own j (by omega)).grown h5.lo e1).grown hwt6 e2
  · intro j hj g hg
    by_cases e : j = k
    · simp only [if_pos e] at hg
      rcases hx with ⟨hx, _⟩ | ⟨g', hx, h2, _⟩
      · rw [hx] at hg; cases hg
      · rw [hx] at hg
        have : g' = g := by injection hg with hg; injection hg
        rw [if_pos (by omega), e]
    · simp only [if_neg e] at hg
      have hlt : g < w.heap.size := by
        rcases h.own j (by omega) with ⟨hx, _⟩ | ⟨g', hx, _, _, _, h5⟩
        · rw [hx] at hg; cases hg
        · rw [hx] at hg
          have : g' = g := by injection hg with hg; injection hg
          rw [← this]; exact heap_lt h5
      rw [if_neg (by omega)]
      exact h.col j (by omega) g hg
  · intro j hj
    by_cases e : j = k
    · simp only [if_pos e]
      refine (hy.grown e1 fun hp b off he hk => ?_).grown e2 fun hp b off he hk => ?_
      · have := hyb b off he; have := hll b hk; omega
      · have := hyb b off he; have := hwl b hk; omega
    · simp only [if_neg e]
      exact ((h5.txt j (by omega)).grown e1 fun hp b off he => (h.tap j (by omega) hp b off he).1).grown e2 fun hp b off he => (h.tap j (by omega) hp b off he).2
  · intro j hj hp b off he
    simp only [Value.ownBlock, ne_eq, Option.some.injEq]
    by_cases e : j = k
    · simp only [if_pos e] at he hp
      have h1 := hyb b off he
      have h2 := hyl hp b off he
      refine ⟨?_, ?_⟩
      · rintro rfl
        rcases hl1 with h3 | h3
        · have := hll _ h3; omega
        · omega
      · rintro rfl
        rcases hl2 with h3 | h3
        · have := hwl _ h3; omega
        · omega
    · simp only [if_neg e] at he hp
      obtain ⟨t1, t2⟩ := h.tap j (by omega) hp b off he
      have hbl : b < w.heap.size := by
        obtain ⟨b', off', e', hl, _⟩ := h.txt j (by omega) 0 hp
        rw [he] at e'
        have : b = b' := by injection e' with e'; injection e'
        omega
      refine ⟨?_, ?_⟩
      · rintro rfl
        rcases hl1 with h3 | h3
        · exact t1 h3
        · omega
      · rintro rfl
        rcases hl2 with h3 | h3
        · exact t2 h3
        · omega
  · intro j hj
    by_cases e : j = k
    · simp only [if_pos e]; exact hf
    · simp only [if_neg e]; exact h.len j (by omega)
end
theorem set4_cell {w : World} {A K : Nat} (h : A ≠ K) (k : Nat) (x y z u : Value) : ((((w.setCell ⟨A, 0, none⟩ x).setCell ⟨A, 1, none⟩ y).setCell ⟨A, 2, none⟩ z).setCell ⟨A, 3, none⟩ u).cell? ⟨K, k, none⟩ = w.cell? ⟨K, k, none⟩ := by
  have ne : ∀ i, (⟨A, i, none⟩ : Addr) ≠ ⟨K, k, none⟩ := fun i e => h (congrArg Addr.block e)
  rw [World.cell?_setCell_other _ _ _ _ (ne _), World.cell?_setCell_other _ _ _ _ (ne _), World.cell?_setCell_other _ _ _ _ (ne _), World.cell?_setCell_other _ _ _ _ (ne _)]

/-- What is read is small. -/
structure Fine (v : Val) : Prop where
  len : v.words.length ≤ 16
  sizes : ∀ k (h : k < v.words.length), v.words[k].size ≤ maxLen
  text : v.text.size ≤ maxLen
theorem fine_zero : Fine zeroV := ⟨by simp [zeroV], fun k h => absurd h (by simp [zeroV]), by decide⟩
theorem intOk_cases (k : Int) (r : Int × Int) : (intOk k r).2 = 0 ∨ (intOk k r).1 = zeroV := by
  unfold intOk
  by_cases h : r.2 = 0
  · rw [if_pos h]; exact .inl rfl
  · rw [if_neg h]; exact .inr rfl
theorem parse_cases (k : Int) (s : ByteArray) : (parseV k s).2 = 0 ∨ (parseV k s).1 = zeroV := by
  unfold parseV
  by_cases h1 : k = 1
  · rw [if_pos h1]; exact intOk_cases _ _
  rw [if_neg h1]
  by_cases h2 : k = 2
  · rw [if_pos h2]; exact intOk_cases _ _
  rw [if_neg h2]
  by_cases h3 : k = 3 ∨ k = 4
  · rw [if_pos h3]; exact intOk_cases _ _
  rw [if_neg h3]
  by_cases h5 : k = 5
  · rw [if_pos h5]
    by_cases h : textV s.data.toList = 0
    · rw [if_pos h]; exact .inl rfl
    · rw [if_neg h]; exact .inr rfl
  rw [if_neg h5]
  by_cases h6 : k = 6
  · rw [if_pos h6]
    by_cases h : wordsV s.data.toList = 0
    · rw [if_pos h]; exact .inl rfl
    · rw [if_neg h]; exact .inr rfl
  rw [if_neg h6]; exact .inr rfl
theorem fine_right {v : Val} (hr : rightV v = true) : Fine v := by
  have hz : ∀ t : ByteArray, t.data.toList = [] → t.size ≤ maxLen := fun t h => by
    have : t.size = t.data.toList.length := by simp
    rw [this, h]; unfold maxLen; simp
  rcases right_cases hr with ⟨_, _, ht, hx⟩ | ⟨_, _, ht, hx⟩ | ⟨_, _, ht, hx⟩ | ⟨_, _, ht, hx⟩ | ⟨_, _, ht, h1, h2, _⟩
  · exact ⟨by omega, fun k h => by omega, hz _ ht⟩
  · exact ⟨by omega, fun k h => by omega, hz _ ht⟩
  · exact ⟨by omega, fun k h => by omega, hz _ ht⟩
  · refine ⟨by omega, fun k h => by omega, ?_⟩
    have h2 := (textV_zero ht).2
    have : v.text.size = v.text.data.toList.length := by simp
    unfold maxLen; omega
  · refine ⟨by omega, fun k h => ?_, hz _ ht⟩
    have hm : v.words[k].data.toList ∈ wl v.words := List.mem_map.2 ⟨_, List.getElem_mem h, rfl⟩
    have hw : wordB v.words[k].data.toList = true := List.all_eq_true.1 h2 _ hm
    unfold wordB at hw
    simp only [Bool.and_eq_true, decide_eq_true_eq] at hw
    have : v.words[k].size = v.words[k].data.toList.length := by simp
    unfold maxLen; omega
theorem parse_fine (k : Int) (s : ByteArray) : Fine (parseV k s).1 := by
  rcases parse_cases k s with h | h
  · exact fine_right (read_right h).1
  · rw [h]; exact fine_zero
theorem Fine.arg {v : Val} (h : Fine v) {w : World} {x : Option Addr} {c : Nat} (ht : Txts w x v.words) (hc : v.words.length ≤ c) : ArgOk w v x c := ⟨ht, hc, by have := h.len; omega, h.sizes, h.text⟩
theorem OwnT.txts {B : Nat} {w : World} {x : Option Addr} {c : Nat} {xs : List ByteArray} (h : OwnT B w x c xs) : Txts w x xs ∧ xs.length ≤ c := by
  rcases h with ⟨h1, h2, h3⟩ | ⟨g, h1, _, h3, _, h5⟩
  · rw [h2]; exact ⟨Txts.nil_ _ _, by simp⟩
  · rw [h1]; exact ⟨fun q hq => ⟨g, 0, rfl, heap_lt h5, by rw [Nat.zero_add, cell_of_row w g q _ _ _ h5]; simp [hq]⟩, by omega⟩
/-- The program's value in its block. -/
structure PA (w0 w : World) (A : Nat) (x : Option Addr) (c : Nat) (p : Val) : Prop where
  below : Below w0.heap.size w0 w
  ge : w0.heap.size ≤ A
  box : Box4 w A (.int .i64 p.kind) (.int .i64 p.int) (.string p.text) (.slice x p.words.length c)
  own : OwnT w0.heap.size w x c p.words
theorem PA.below' {w0 w w' : World} {A : Nat} {x : Option Addr} {c : Nat} {p : Val} (h : PA w0 w A x c p) (hb : Below w.heap.size w w') : PA w0 w' A x c p := ⟨h.below.trans (hb.mono h.below.size), h.ge, h.box.below hb, h.own.below hb⟩
theorem PA.one {w0 w2 : World} {x : Option Addr} {c : Nat} {p : Val} {A : Nat} {n : Int} {b1 b2 b3 : Value} (hb : Below w0.heap.size w0 w2) (hge : w0.heap.size ≤ A) (hz : Box4 w2 A (.int .i64 n) b1 b2 b3) (ho : OwnT w0.heap.size w2 x c p.words) :
    PA w0 (Go.Proofs.YtolibkcdfhbdiaaDoor.set4 w2 A (.int .i64 p.kind) (.int .i64 p.int) (.string p.text) (.slice x p.words.length c)) A x c p := by
  refine ⟨below_set4 hb hge _ _ _ _, hge, hz.set4 _ _ _ _, ?_⟩
  rcases ho with h | ⟨g, h1, h2, h3, h4, h5⟩
  · exact Or.inl h
  · refine Or.inr ⟨g, h1, h2, h3, h4, ?_⟩
    rw [set4_block]; · exact h5
    rintro rfl
    have := hz.c0
    rw [cell_of_row w2 g 0 _ _ _ h5] at this
    simp [h4] at this
theorem PA.two {w0 w2 : World} {x : Option Addr} {c : Nat} {p : Val} {t : TypeId} (hb : Below w0.heap.size w0 w2) (hge : w0.heap.size ≤ w2.heap.size) (ho : OwnT w0.heap.size w2 x c p.words) :
    PA w0 (w2.alloc (Obj.cells #[.int .i64 p.kind, .int .i64 p.int, .string p.text, .slice x p.words.length c] t)) w2.heap.size x c p :=
  ⟨hb.trans ((below_one w2 _).mono hge), hge, box4_new w2 _ _ _ _ _, ho.below (below_one w2 _)⟩
/-- Both values in their blocks. -/
structure PB (w0 w : World) (A E : Nat) (x : Option Addr) (c : Nat) (y : Option Addr) (d : Nat) (p : Val) : Prop where
  a : PA w0 w A x c p
  ge : w0.heap.size ≤ E
  box : Box4 w E (.int .i64 p.kind) (.int .i64 p.int) (.string p.text) (.slice y p.words.length d)
  txt : Txts w y p.words
  cap : p.words.length ≤ d
  yb : ∀ b off, y = some ⟨b, off, none⟩ → w0.heap.size ≤ b
theorem PB.below' {w0 w w' : World} {A E : Nat} {x : Option Addr} {c : Nat} {y : Option Addr} {d : Nat} {p : Val} (h : PB w0 w A E x c y d p) (hb : Below w.heap.size w w') : PB w0 w' A E x c y d p := ⟨h.a.below' hb, h.ge, h.box.below hb, h.txt.below hb, h.cap, h.yb⟩
theorem PB.one {w0 w1 w2 : World} {A E : Nat} {x : Option Addr} {c : Nat} {y : Option Addr} {d : Nat} {p : Val} {b0 b1 b2 b3 : Value} (hA : PA w0 w1 A x c p) (hb : Below w1.heap.size w1 w2) (hge : w1.heap.size ≤ E) (hz : Box4 w2 E b0 b1 b2 b3) (ht : Txts w2 y p.words) (hd : p.words.length ≤ d) (hy : ∀ b off, y = some ⟨b, off, none⟩ → w1.heap.size ≤ b ∧ b ≠ E) :
    PB w0 (Go.Proofs.YtolibkcdfhbdiaaDoor.set4 w2 E (.int .i64 p.kind) (.int .i64 p.int) (.string p.text) (.slice y p.words.length d)) A E x c y d p :=
  ⟨hA.below' (below_set4 hb hge _ _ _ _), Nat.le_trans hA.below.size hge, hz.set4 _ _ _ _, ht.set4 (fun b off e => (hy b off e).2) _ _ _ _, hd, fun b off e => Nat.le_trans hA.below.size (hy b off e).1⟩
theorem PB.two {w0 w1 w2 : World} {A : Nat} {x : Option Addr} {c : Nat} {y : Option Addr} {d : Nat} {p : Val} {t : TypeId} (hA : PA w0 w1 A x c p) (hb : Below w1.heap.size w1 w2) (ht : Txts w2 y p.words) (hd : p.words.length ≤ d) (hy : ∀ b off, y = some ⟨b, off, none⟩ → w1.heap.size ≤ b) :
    PB w0 (w2.alloc (Obj.cells #[.int .i64 p.kind, .int .i64 p.int, .string p.text, .slice y p.words.length d] t)) A w2.heap.size x c y d p :=
  ⟨(hA.below' hb).below' (below_one w2 _), Nat.le_trans hA.below.size hb.size, box4_new w2 _ _ _ _ _, ht.below (below_one w2 _), hd, fun b off e => Nat.le_trans hA.below.size (hy b off e)⟩
theorem PS.wt6 {w0 w w' : World} {K Q : Nat} {kd : Int} {s o : ByteArray} {k : Nat} {l wt : Value} {X : Nat → Option Addr} {C : Nat → Nat} {F : Nat → List ByteArray} {Y : Nat → Option Addr} {D : Nat → Nat} {col : Nat → Nat} (h : PS w0 w K Q kd s o k l wt X C F Y D col) {o1 : Obj} (hg : (w.alloc o1).grownBy w' l.ownBlock) : w'.ownsRow w0.heap.size 23 1 wt k ((List.range k).map (lv Y F D)) ∧ w0.heap.size ≤ w'.heap.size :=
  ⟨h.wo.kept (grownBy_alloc_of hg) (by
    cases hq : wt.ownBlock with
    | none => exact .inl rfl
    | some g => exact .inr fun he => h.apart g he.symm hq), Nat.le_trans h.below.size (grownBy_alloc_of hg).size⟩
theorem PB.far {w0 w1 w2 : World} {A E : Nat} {x : Option Addr} {c : Nat} {y : Option Addr} {d : Nat} {p : Val} (h : PB w0 w1 A E x c y d p) {v : Value} (hl : ∀ g, v.ownBlock = some g → g < w0.heap.size) {o1 : Obj} (hg : (w1.alloc o1).grownBy w2 v.ownBlock) : w2.cell? ⟨E, 3, none⟩ = some (.slice y p.words.length d) := by
  rw [(grownBy_alloc_of hg).cell_far ⟨E, 3, none⟩ h.box.lt (fun e => by have := hl E e.symm; have := h.ge; omega)]
  exact h.box.c3
theorem LB.of_row {w : World} {B g cap : Nat} {V : Nat → Value} (h : w.ownsRow B 23 1 (.slice (some ⟨g, 0, none⟩) 5 cap) 5 ((List.range 5).map V)) : LB w g V := by
  rcases h.2 with ⟨h1, _⟩ | ⟨g', cap', cur, h1, _, h3, _, _, _, h6⟩
  · cases h1
  · injection h1 with h1 _ _
    have : g = g' := by injection h1 with h1; injection h1
    subst this
    refine ⟨cur, h3, fun k hk => ?_⟩
    have := congrArg (fun l => l[k]?) h6
    simp only [List.getElem?_take, List.getElem?_map, List.getElem?_range hk, Option.map_some] at this
    rw [if_pos (by omega)] at this
    simpa using this
theorem PS.came {w0 w : World} {K Q : Nat} {kd : Int} {s o : ByteArray} {g1 c1 g2 c2 : Nat} {X : Nat → Option Addr} {C : Nat → Nat} {F : Nat → List ByteArray} {Y : Nat → Option Addr} {D : Nat → Nat} {col : Nat → Nat} (h : PS w0 w K Q kd s o 5 (.slice (some ⟨g1, 0, none⟩) 5 c1) (.slice (some ⟨g2, 0, none⟩) 5 c2) X C F Y D col) : Came w0.heap.size w g1 g2 X C F Y D col :=
  ⟨LB.of_row h.lo, LB.of_row h.wo, h.own, h.col, h.txt, h.len, h.below.size⟩
theorem gen_then {K : Act → World → Prop} {Q : Exit → Act → World → Prop} {e : Exit} {a : Act} {w : World} (F : World → Prop) (hF : F w) (h : ∀ W, F W → Exit.then K Q e a W) : Exit.then K Q e a w := h w hF
theorem how_alloc {w : World} {o : Obj} {y : Option Addr} (h : ∀ b off, y = some ⟨b, off, none⟩ → (w.alloc o).drew.heap.size ≤ b) : ∀ b off, y = some ⟨b, off, none⟩ → w.heap.size ≤ b ∧ b ≠ w.heap.size := fun b off e => by
  have h1 := h b off e
  have h2 : (w.alloc o).drew.heap.size = w.heap.size + 1 := World.size_alloc w o
  rw [h2] at h1
  exact ⟨by omega, by omega⟩
theorem same_fine {p : Val} (hf : Fine p) {w0 w : World} {A E : Nat} {x : Option Addr} {c : Nat} {y : Option Addr} {d : Nat} (h : PB w0 w A E x c y d p) :
    Calls Tryd.prog 14 #[.agg #[.int .i64 p.kind, .int .i64 p.int, .string p.text, .slice x p.words.length c], .agg #[.int .i64 p.kind, .int .i64 p.int, .string p.text, .slice y p.words.length d]] w fun e w' => e = .returned (.bool true) ∧ Below w.heap.size w w' := by
  have := refSame_any w p p x y c d (hf.arg h.a.own.txts.1 h.a.own.txts.2) (hf.arg h.txt h.cap)
  rw [same_self] at this
  exact this

set_option maxHeartbeats 3200000 in
set_option maxRecDepth 100000 in
theorem parses_any (w : World) (kd : Int) (s o : ByteArray) (hS : Std w) (hs : s.size ≤ maxLen) (ho : o.size ≤ maxLen) :
    Calls Tryd.prog 4 #[.int .i64 kd, .string s, .string o] w fun e w' => e = .returned (.bool true) ∧ Below w.heap.size w w' := by
  have HS := Lib.hid hS
  have HSS := Lib.hid hs
  have HOO := Lib.hid ho
  have hsl := hs
  have hol := ho
  unfold maxLen at hsl hol
  clear hS hs ho
  go_enter Tryd.func4, Tryd.ntmps4
  go_wp2_with fail
  refine (adds_any _ _ _ (by omega) (by omega)).mono ?_
  rintro e w1 ⟨r, rfl, hr, hsum, rfl⟩
  by_cases hbig : 2147483647 < r
  · go_wp2
    go_ret
    exact ⟨rfl, Below.refl _ _⟩
  obtain ⟨hs2, ho2⟩ := hsum (by omega)
  have HBS : Hid (s.size ≤ 2147483647) := Lib.hid (by omega)
  have HBO : Hid (o.size ≤ 2147483647) := Lib.hid (by omega)
  clear hsum hs2 ho2
  go_wp2_with fail
  refine (awake_any _ HS.out).mono ?_
  rintro e w1 ⟨rfl, hb1⟩
  have HB1 := Lib.hid hb1
  clear hb1
  have HP0 : Hid (∀ t1 t2, t1 = 3 → t2 = 9 → PS w ((w1.alloc (Obj.cells #[.int .i64 kd, .int .i64 kd, .int .i64 6, .int .i64 6, .int .i64 kd] t1)).alloc (Obj.cells #[.string s, .string o, .string s, .string o, .string s] t2)) w1.heap.size (w1.heap.size + 1) kd s o 0 (.slice none 0 0) (.slice none 0 0) (fun _ => none) (fun _ => 0) (fun _ => []) (fun _ => none) (fun _ => 0) (fun _ => 0)) := Lib.hid (by
    rintro _ _ rfl rfl
    refine ⟨(HB1.out.alloc HB1.out.size _).alloc (HB1.out.alloc HB1.out.size _).size _, ?_, ?_, World.ownsRow_nil _ _ _ _, World.ownsRow_nil _ _ _ _, fun g hg => by simp [Value.ownBlock] at hg, fun j hj => absurd hj (by omega), fun j hj => absurd hj (by omega), fun j hj => absurd hj (by omega), fun j hj => absurd hj (by omega), fun j hj => absurd hj (by omega)⟩
    · rw [(below_one _ _).block _ (by simp)]; exact heap_alloc_new w1 _
    · have := heap_alloc_new (w1.alloc (Obj.cells #[.int .i64 kd, .int .i64 kd, .int .i64 6, .int .i64 6, .int .i64 kd] 3)) (Obj.cells #[.string s, .string o, .string s, .string o, .string s] 9)
      rw [World.size_alloc] at this; exact this)
  go_wp2_with fail
  refine gen_world (fun W => PS w W w1.heap.size (w1.heap.size + 1) kd s o 0 (.slice none 0 0) (.slice none 0 0) (fun _ => none) (fun _ => 0) (fun _ => []) (fun _ => none) (fun _ => 0) (fun _ => 0)) (HP0.out _ _ rfl rfl) ?_
  intro wa hp0
  obtain ⟨Q, hQ⟩ : ∃ Q, w1.heap.size + 1 = Q := ⟨_, rfl⟩
  obtain ⟨K, hK⟩ : ∃ K, w1.heap.size = K := ⟨_, rfl⟩
  rw [hQ, hK] at hp0
  try rw [World.size_alloc]
  rw [hQ, hK]
  have HP : Hid (∃ X C F Y D col, PS w wa K Q kd s o 0 (.slice none 0 0) (.slice none 0 0) X C F Y D col) := Lib.hid ⟨_, _, _, _, _, _, hp0⟩
  clear hQ hK hp0 HP0
  go_loopw [10, 11, 12] (fun l wt i wr => ∃ k : Nat, i = .int .i64 k ∧ k ≤ 5 ∧ Hid (∃ X C F Y D col, PS w wr K Q kd s o k l wt X C F Y D col)) (fun _ _ i _ => 5 - (intOf i).toNat)
  case atStart => exact ⟨0, rfl, by omega, HP⟩
  case round =>
    clear HP
    obtain ⟨k, rfl, hk, HP⟩ := hrel
    by_cases hlt : k < 5
    · obtain ⟨X, C, F, Y, D, col, hp⟩ := HP.out
      have HPP := Lib.hid hp
      have c1 := cell_of_row wr K k _ _ _ hp.kb
      rw [kcs_at kd hlt] at c1
      have c2 := cell_of_row wr Q k _ _ _ hp.qb
      rw [scs_at s o hlt] at c2
      have hKl := heap_lt hp.kb
      have hQl := heap_lt hp.qb
      have HSZ : Hid ((SS s o k).size ≤ 2147483647) := Lib.hid (by unfold SS; split; exact HBO.out; exact HBS.out)
      generalize KK kd k = kk at c1
      generalize SS s o k = ss at c2 HSZ
      obtain ⟨p, hpv⟩ : ∃ p, parseV kk ss = p := ⟨_, rfl⟩
      have HFI : Hid (Fine p.1) := Lib.hid (by rw [← hpv]; exact parse_fine kk ss)
      have HPV := Lib.hid hpv
      obtain ⟨⟨pk, pn, pt, pw⟩, pe⟩ := p
      have q1 : (0 : Int) ≤ k := by omega
      have q2 : (k : Int) < 5 := by omega
      have HZ0 : Hid (∀ t, Below wr.heap.size wr (wr.alloc (Obj.cells #[.int .i64 0, .int .i64 0, .string ⟨#[]⟩, .slice none 0 0] t)).drew ∧ zero4 (wr.alloc (Obj.cells #[.int .i64 0, .int .i64 0, .string ⟨#[]⟩, .slice none 0 0] t)).drew wr.heap.size) := Lib.hid fun t => ⟨(below_one wr _).drew, (box4_new wr _ _ _ _ t).below (below_drewN _ 1)⟩
      have HPC : Hid (∀ W, Below wr.heap.size wr W → Calls Tryd.prog 12 #[.int .i64 kk, .string ss] W fun e w' => ∃ x c, e = .returned (.tuple #[.agg #[.int .i64 pk, .int .i64 pn, .string pt, .slice x pw.length c], .int .i64 pe]) ∧ Below W.heap.size W w' ∧ OwnT wr.heap.size w' x c pw) := Lib.hid fun W hb => by
        have hst := HS.out.below (HPP.out.below.trans (hb.mono HPP.out.below.size))
        refine (parse_any kk ss W hst.tab hst.units hst.maxI (by have := HSZ.out; unfold maxLen; omega)).mono ?_
        rintro e w' ⟨h1, x, c, h2, h3⟩
        rw [HPV.out] at h2 h3
        exact ⟨x, c, h2, h1, h3.mono hb.size⟩
      have HD : Hid (Below wr.heap.size wr wr.drew) := Lib.hid (below_drewN wr 1)
      have HC1 := Lib.hid c1
      have HC2 := Lib.hid c2
      have d1 : wr.drew.cell? ⟨K, k, none⟩ = some (.int .i64 kk) := c1
      have d2 : wr.drew.cell? ⟨Q, k, none⟩ = some (.string ss) := c2
      have z5 : ∀ t, (wr.alloc (Obj.cells #[.int .i64 0, .int .i64 0, .string ⟨#[]⟩, .slice none 0 0] t)).drew.cell? ⟨K, k, none⟩ = some (.int .i64 kk) := fun t => ((HZ0.out t).1.cell (p := ⟨K, k, none⟩) hKl).trans c1
      have z6 : ∀ t, (wr.alloc (Obj.cells #[.int .i64 0, .int .i64 0, .string ⟨#[]⟩, .slice none 0 0] t)).drew.cell? ⟨Q, k, none⟩ = some (.string ss) := fun t => ((HZ0.out t).1.cell (p := ⟨Q, k, none⟩) hQl).trans c2
      clear hp hpv HP
      go_wp2
      go_region_held3 (fun w' => w'.cell? ⟨K, k, none⟩ = some (.int .i64 kk) ∧ w'.cell? ⟨Q, k, none⟩ = some (.string ss)) (first | with_reducible exact ⟨d1, d2⟩ | with_reducible exact ⟨c1, c2⟩ | with_reducible exact ⟨z1, z2⟩ | with_reducible exact ⟨z5 _, z6 _⟩ | with_reducible exact ⟨z3 _, z4 _⟩ | (refine ⟨?_, ?_⟩ <;> (rw [set4_cell (A := wr.heap.size) (by omega)]; with_reducible assumption)) | (refine ⟨?_, ?_⟩ <;> (rw [set4_cell (A := w2.heap.size) (by omega)]; first | with_reducible exact z3 _ | with_reducible exact z4 _)))
        (first
          | (go_at_call 12; (with_reducible refine (HPC.out _ (HZ0.out _).1).mono ?_); rintro e w2 ⟨x, c, rfl, hb2, hown⟩; have HBW := Lib.hid ((HZ0.out _).1.trans (hb2.mono (HZ0.out _).1.size)); obtain ⟨y0, y1, y2, y3, y4, y5, y6, y7⟩ := (HZ0.out 29).2.below hb2; have HOW := Lib.hid hown; have z1 : w2.cell? ⟨K, k, none⟩ = some (.int .i64 kk) := (HBW.out.cell (p := ⟨K, k, none⟩) hKl).trans c1; have z2 : w2.cell? ⟨Q, k, none⟩ = some (.string ss) := (HBW.out.cell (p := ⟨Q, k, none⟩) hQl).trans c2; have z3 : ∀ o, (w2.alloc o).cell? ⟨K, k, none⟩ = some (.int .i64 kk) := fun o => ((below_one w2 o).cell (p := ⟨K, k, none⟩) (Nat.lt_of_lt_of_le hKl HBW.out.size)).trans z1; have z4 : ∀ o, (w2.alloc o).cell? ⟨Q, k, none⟩ = some (.string ss) := fun o => ((below_one w2 o).cell (p := ⟨Q, k, none⟩) (Nat.lt_of_lt_of_le hQl HBW.out.size)).trans z2; have hle : wr.heap.size ≤ w2.heap.size := HBW.out.size; clear hb2 hown)
          | (go_at_call 12; (with_reducible refine (HPC.out _ HD.out).mono ?_); rintro e w2 ⟨x, c, rfl, hb2, hown⟩; have HBW := Lib.hid ((below_drewN wr 1).trans (hb2.mono (Nat.le_refl _))); have HOW := Lib.hid hown; have z1 : w2.cell? ⟨K, k, none⟩ = some (.int .i64 kk) := (HBW.out.cell (p := ⟨K, k, none⟩) hKl).trans c1; have z2 : w2.cell? ⟨Q, k, none⟩ = some (.string ss) := (HBW.out.cell (p := ⟨Q, k, none⟩) hQl).trans c2; have z3 : ∀ o, (w2.alloc o).cell? ⟨K, k, none⟩ = some (.int .i64 kk) := fun o => ((below_one w2 o).cell (p := ⟨K, k, none⟩) (Nat.lt_of_lt_of_le hKl HBW.out.size)).trans z1; have z4 : ∀ o, (w2.alloc o).cell? ⟨Q, k, none⟩ = some (.string ss) := fun o => ((below_one w2 o).cell (p := ⟨Q, k, none⟩) (Nat.lt_of_lt_of_le hQl HBW.out.size)).trans z2; have hle : wr.heap.size ≤ w2.heap.size := HBW.out.size; clear hb2 hown))
      all_goals
        first
        | (refine gen_then (fun W => PA wr W wr.heap.size x c ⟨pk, pn, pt, pw⟩) (PA.one (p := ⟨pk, pn, pt, pw⟩) HBW.out (Nat.le_refl _) ⟨y0, y1, y2, y3, y4, y5, y6, y7⟩ HOW.out) ?_; intro wa hpa; generalize wr.heap.size = A at hpa ⊢; clear y0 y1 y2 y3 y4 y5 y6 y7)
        | (refine gen_then (fun W => PA wr W w2.heap.size x c ⟨pk, pn, pt, pw⟩) (PA.two (p := ⟨pk, pn, pt, pw⟩) HBW.out hle HOW.out) ?_; intro wa hpa; generalize w2.heap.size = A at hpa ⊢)
        have HPA := Lib.hid hpa
        clear hpa z1 z2 z3 z4 z5 z6 c1 c2 d1 d2 hle HBW HOW HZ0 HD
        have c1 : wa.cell? ⟨K, k, none⟩ = some (.int .i64 kk) := (HPA.out.below.cell (p := ⟨K, k, none⟩) hKl).trans HC1.out
        have c2 : wa.cell? ⟨Q, k, none⟩ = some (.string ss) := (HPA.out.below.cell (p := ⟨Q, k, none⟩) hQl).trans HC2.out
        have d1 : wa.drew.cell? ⟨K, k, none⟩ = some (.int .i64 kk) := c1
        have d2 : wa.drew.cell? ⟨Q, k, none⟩ = some (.string ss) := c2
        have hKa : K < wa.heap.size := Nat.lt_of_lt_of_le hKl HPA.out.below.size
        have hQa : Q < wa.heap.size := Nat.lt_of_lt_of_le hQl HPA.out.below.size
        have HZ0 : Hid (∀ t, Below wa.heap.size wa (wa.alloc (Obj.cells #[.int .i64 0, .int .i64 0, .string ⟨#[]⟩, .slice none 0 0] t)).drew ∧ zero4 (wa.alloc (Obj.cells #[.int .i64 0, .int .i64 0, .string ⟨#[]⟩, .slice none 0 0] t)).drew wa.heap.size) := Lib.hid fun t => ⟨(below_one wa _).drew, (box4_new wa _ _ _ _ t).below (below_drewN _ 1)⟩
        have HD : Hid (Below wa.heap.size wa wa.drew) := Lib.hid (below_drewN wa 1)
        have HRC : Hid (∀ W, Below wa.heap.size wa W → Calls Tryd.prog 13 #[.int .i64 kk, .string ss] W fun e w' => ∃ y d, e = .returned (.tuple #[.agg #[.int .i64 pk, .int .i64 pn, .string pt, .slice y pw.length d], .int .i64 pe]) ∧ Below W.heap.size W w' ∧ pw.length ≤ d ∧ Txts w' y pw ∧ ∀ b off, y = some ⟨b, off, none⟩ → W.heap.size ≤ b) := Lib.hid fun W hb => by
          refine (refParse_any kk ss W HSZ.out).mono ?_
          rintro e w' ⟨h1, y, d, h2, h3, h4, h5⟩
          rw [HPV.out] at h2 h3 h4
          exact ⟨y, d, h2, h1, h3, h4, h5⟩
        have z5 : ∀ t, (wa.alloc (Obj.cells #[.int .i64 0, .int .i64 0, .string ⟨#[]⟩, .slice none 0 0] t)).drew.cell? ⟨K, k, none⟩ = some (.int .i64 kk) := fun t => ((HZ0.out t).1.cell (p := ⟨K, k, none⟩) hKa).trans c1
        have z6 : ∀ t, (wa.alloc (Obj.cells #[.int .i64 0, .int .i64 0, .string ⟨#[]⟩, .slice none 0 0] t)).drew.cell? ⟨Q, k, none⟩ = some (.string ss) := fun t => ((HZ0.out t).1.cell (p := ⟨Q, k, none⟩) hQa).trans c2
        go_wp2_with fail
        go_region_held3 (fun w' => w'.cell? ⟨K, k, none⟩ = some (.int .i64 kk) ∧ w'.cell? ⟨Q, k, none⟩ = some (.string ss)) (first | with_reducible exact ⟨d1, d2⟩ | with_reducible exact ⟨c1, c2⟩ | with_reducible exact ⟨z1, z2⟩ | with_reducible exact ⟨z5 _, z6 _⟩ | with_reducible exact ⟨z3 _, z4 _⟩ | (refine ⟨?_, ?_⟩ <;> (rw [set4_cell (A := wa.heap.size) (by omega)]; with_reducible assumption)) | (refine ⟨?_, ?_⟩ <;> (rw [set4_cell (A := w3.heap.size) (by omega)]; first | with_reducible exact z3 _ | with_reducible exact z4 _)))
          (first
            | (go_at_call 13; (with_reducible refine (HRC.out _ (HZ0.out _).1).mono ?_); rintro e w3 ⟨y, d, rfl, hb2, hyd, htx, hyb⟩; have HBW := Lib.hid ((HZ0.out _).1.trans (hb2.mono (HZ0.out _).1.size)); obtain ⟨y0, y1, y2, y3, y4, y5, y6, y7⟩ := (HZ0.out 29).2.below hb2; have HOW := Lib.hid (how_alloc hyb); have HTX := Lib.hid htx; have z1 : w3.cell? ⟨K, k, none⟩ = some (.int .i64 kk) := (HBW.out.cell (p := ⟨K, k, none⟩) hKa).trans c1; have z2 : w3.cell? ⟨Q, k, none⟩ = some (.string ss) := (HBW.out.cell (p := ⟨Q, k, none⟩) hQa).trans c2; have z3 : ∀ o, (w3.alloc o).cell? ⟨K, k, none⟩ = some (.int .i64 kk) := fun o => ((below_one w3 o).cell (p := ⟨K, k, none⟩) (Nat.lt_of_lt_of_le hKa HBW.out.size)).trans z1; have z4 : ∀ o, (w3.alloc o).cell? ⟨Q, k, none⟩ = some (.string ss) := fun o => ((below_one w3 o).cell (p := ⟨Q, k, none⟩) (Nat.lt_of_lt_of_le hQa HBW.out.size)).trans z2; have hle : wa.heap.size ≤ w3.heap.size := HBW.out.size; clear hb2 htx hyb)
            | (go_at_call 13; (with_reducible refine (HRC.out _ HD.out).mono ?_); rintro e w3 ⟨y, d, rfl, hb2, hyd, htx, hyb⟩; have HBW := Lib.hid (HD.out.trans (hb2.mono (Nat.le_refl _))); have HOW : Hid (∀ b off, y = some ⟨b, off, none⟩ → wa.heap.size ≤ b) := Lib.hid hyb; have HTX := Lib.hid htx; have z1 : w3.cell? ⟨K, k, none⟩ = some (.int .i64 kk) := (HBW.out.cell (p := ⟨K, k, none⟩) hKa).trans c1; have z2 : w3.cell? ⟨Q, k, none⟩ = some (.string ss) := (HBW.out.cell (p := ⟨Q, k, none⟩) hQa).trans c2; have z3 : ∀ o, (w3.alloc o).cell? ⟨K, k, none⟩ = some (.int .i64 kk) := fun o => ((below_one w3 o).cell (p := ⟨K, k, none⟩) (Nat.lt_of_lt_of_le hKa HBW.out.size)).trans z1; have z4 : ∀ o, (w3.alloc o).cell? ⟨Q, k, none⟩ = some (.string ss) := fun o => ((below_one w3 o).cell (p := ⟨Q, k, none⟩) (Nat.lt_of_lt_of_le hQa HBW.out.size)).trans z2; have hle : wa.heap.size ≤ w3.heap.size := HBW.out.size; clear hb2 htx hyb))
      all_goals
        first
        | (refine gen_then (fun W => PB wr W A wa.heap.size x c y d ⟨pk, pn, pt, pw⟩) (PB.one (p := ⟨pk, pn, pt, pw⟩) HPA.out HBW.out (Nat.le_refl _) ⟨y0, y1, y2, y3, y4, y5, y6, y7⟩ HTX.out hyd HOW.out) ?_; intro wb hpb; generalize wa.heap.size = E at hpb ⊢; clear y0 y1 y2 y3 y4 y5 y6 y7)
        | (refine gen_then (fun W => PB wr W A w3.heap.size x c y d ⟨pk, pn, pt, pw⟩) (PB.two (p := ⟨pk, pn, pt, pw⟩) HPA.out HBW.out HTX.out hyd HOW.out) ?_; intro wb hpb; generalize w3.heap.size = E at hpb ⊢)
        have HPB := Lib.hid hpb
        clear z1 z2 z3 z4 z5 z6 c1 c2 d1 d2 hle HBW HOW HZ0 HD HTX HRC HPC HPA hyd hKa hQa
        obtain ⟨a0, a1, a2, a3, _, _, _, _⟩ := hpb.a.box
        obtain ⟨b0, b1, b2, b3, _, _, _, _⟩ := hpb.box
        clear hpb
        simp only at a0 a1 a2 a3 b0 b1 b2 b3
        go_wp2_with fail
        refine (same_fine HFI.out HPB.out).mono ?_
        rintro e w4 ⟨rfl, hb4⟩
        have HP4 := Lib.hid (HPB.out.below' hb4)
        clear hb4 a0 a1 a2 a3 b0 b1 b2 b3 HPB
        have c1 : w4.cell? ⟨K, k, none⟩ = some (.int .i64 kk) := (HP4.out.a.below.cell (p := ⟨K, k, none⟩) hKl).trans HC1.out
        have c2 : w4.cell? ⟨Q, k, none⟩ = some (.string ss) := (HP4.out.a.below.cell (p := ⟨Q, k, none⟩) hQl).trans HC2.out
        have d1 : w4.drew.cell? ⟨K, k, none⟩ = some (.int .i64 kk) := c1
        have d2 : w4.drew.cell? ⟨Q, k, none⟩ = some (.string ss) := c2
        have HUN : Hid (Units w4.drew) := Lib.hid ((HS.out.below (HPP.out.below.trans (HP4.out.a.below.mono HPP.out.below.size))).units.below (below_drewN w4 1))
        have HD : Hid (Below w4.heap.size w4 w4.drew) := Lib.hid (below_drewN w4 1)
        go_wp2_with fail
        go_region_held3 (fun w' => w'.cell? ⟨K, k, none⟩ = some (.int .i64 kk) ∧ w'.cell? ⟨Q, k, none⟩ = some (.string ss)) (first | with_reducible exact ⟨d1, d2⟩ | with_reducible exact ⟨c1, c2⟩ | with_reducible exact ⟨z1, z2⟩)
          (first
            | (go_at_call 9; (with_reducible refine (unit_any kk ss _ HUN.out).mono ?_); rintro e w5 ⟨rfl, hb5⟩; have HB5 := Lib.hid (HD.out.trans (hb5.mono (Nat.le_refl _))); have z1 : w5.cell? ⟨K, k, none⟩ = some (.int .i64 kk) := (HB5.out.cell (p := ⟨K, k, none⟩) (Nat.lt_of_lt_of_le hKl HP4.out.a.below.size)).trans c1; have z2 : w5.cell? ⟨Q, k, none⟩ = some (.string ss) := (HB5.out.cell (p := ⟨Q, k, none⟩) (Nat.lt_of_lt_of_le hQl HP4.out.a.below.size)).trans c2; clear hb5)
            | (go_at_call 10; (with_reducible refine (refUnit_any kk ss _).mono ?_); rintro e w' ⟨rfl, rfl⟩))
        all_goals
          have HP5 := Lib.hid (HP4.out.below' HB5.out)
          have HS5 := Lib.hid (HPP.out.below' HP5.out.a.below)
          have a3 : w5.cell? ⟨A, 3, none⟩ = some (.slice x pw.length c) := HP5.out.a.box.c3
          clear c1 c2 d1 d2 z1 z2 HUN HD HB5 HP4
          go_wp2_with (at_builtin; first
            | (refine appendL rfl _ _ rfl HS5.out.lo HS5.out.below.size (by omega) rfl rfl rfl ?_; intro g1 cap1 w6 ho1 hg1 hl1 hlt1; have HG1 := Lib.hid (And.intro ho1 (And.intro hg1 (And.intro hl1 hlt1))); have e3 : w6.cell? ⟨E, 3, none⟩ = some (.slice y pw.length d) := HP5.out.far (fun g hg => (World.ownsRow.lt HPP.out.lo g hg).2) hg1; clear ho1 hg1 hl1 hlt1 a3)
            | (refine appendL rfl _ _ rfl (HS5.out.wt6 HG1.out.2.1).1 (HS5.out.wt6 HG1.out.2.1).2 (by omega) rfl rfl rfl ?_; intro g2 cap2 w7 ho2 hg2 hl2 hlt2; have HN := Lib.hid (HPP.out.push HP5.out.a.below HP5.out.a.own HP5.out.txt HP5.out.yb HFI.out.len HG1.out.1 HG1.out.2.1 HG1.out.2.2.1 ho2 hg2 hl2 HG1.out.2.2.2); clear ho2 hg2 hl2 hlt2 e3))
          go_roundw
          case rel => exact ⟨k + 1, by go_num, by omega, HN⟩
          case measure => simp [intOf]; omega
    · obtain ⟨X, C, F, Y, D, col, hp⟩ := HP.out
      obtain rfl : k = 5 := by omega
      obtain ⟨g1, c1, hl1, _, _⟩ := hp.lo.form (by decide)
      obtain ⟨g2, c2, hl2, _, _⟩ := hp.wo.form (by decide)
      subst hl1 hl2
      have HB5 := Lib.hid hp.below
      have HC := Lib.hid hp.came
      clear hp HP
      go_wp2_with fail
      refine (owned_any w.heap.size wr g1 g2 c1 c2 X C F Y D col HC.out).mono ?_
      rintro e w8 ⟨rfl, hb8⟩
      have HB8 := Lib.hid (HB5.out.trans hb8)
      clear hb8
      go_wp2_with fail
      refine (stands_any _ (HS.out.below HB8.out)).mono ?_
      rintro e w9 ⟨rfl, hb9⟩
      have HB9 := Lib.hid (HB8.out.trans (hb9.mono HB8.out.size))
      clear hb9
      go_wp2
      go_ret
      exact ⟨rfl, HB9.out⟩
end Go.Proofs.YtolibkcdfhbdiaaDoor
