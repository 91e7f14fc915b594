/-
  SetKit, SetOwn, ValueRefDigits, ValueRefGreat, ValueRefPrint, RefsWork, SetMay.
-/
import Derived.Test.YtopghlnoklajkaaGreatDoorQTxKit
import Derived.Test.YtopghlnoklajkaaGreatDoorQRowOps
import Derived.Test.YtopghlnoklajkaaGreatDoorQValueRight
import Derived.Test.YtopghlnoklajkaaGreatDoorQValuePrint
import Derived.Test.YtopghlnoklajkaaGreatDoorQValueUnited
import Derived.Deep.RegionHeld3
import Derived.IntWalk
import Derived.Test.YtopghlnoklajkaaGreatDoorQValueRefRight2
import Derived.Test.YtopghlnoklajkaaGreatDoorQValueRefWithin
import Derived.Test.YtopghlnoklajkaaGreatDoorQKeyFind
namespace Go.Proofs.YtopghlnoklajkaaGreatDoor
open Go.ChangeShapes Go.WideShapes Go.ChangeAt Go.RowKit

/-- A setting. -/
structure SetV where
  name : ByteArray
  val : Val
  from_ : Int
/-- A setting in memory: where its words lie. -/
structure SetM where
  x : SetV
  a : Option Addr
  c : Nat
def sCells (m : SetM) : List Value := [.string m.x.name, .int .i64 m.x.val.kind, .int .i64 m.x.val.int, .string m.x.val.text, .slice m.a m.x.val.words.length m.c, .int .i64 m.x.from_]
def sFlat (ms : List SetM) : List Value := ms.flatMap sCells
theorem sFlat_len (ms : List SetM) : (sFlat ms).length = ms.length * 6 := by
  unfold sFlat
  induction ms with
  | nil => rfl
  | cons m r ih => rw [List.flatMap_cons, List.length_append, ih]; simp [sCells]; omega
theorem sFlat_app (a b : List SetM) : sFlat (a ++ b) = sFlat a ++ sFlat b := by unfold sFlat; rw [List.flatMap_append]
theorem sFlat_snoc (a : List SetM) (m : SetM) : sFlat (a ++ [m]) = sFlat a ++ sCells m := by rw [sFlat_app]; simp [sFlat]
theorem sCells_one (m : SetM) : ∀ v ∈ sCells m, v.oneCell' = true := by
  intro v hv
  unfold sCells at hv
  simp only [List.mem_cons, List.not_mem_nil, or_false] at hv
  rcases hv with rfl | rfl | rfl | rfl | rfl | rfl <;> rfl
theorem sFlat_at (l : List SetM) : ∀ k (h : k < l.length) j, j < 6 → (sFlat l)[k * 6 + j]? = (sCells l[k])[j]? := by
  induction l with
  | nil => intro k h; simp at h
  | cons m r ih =>
    intro k h j hj
    unfold sFlat
    rw [List.flatMap_cons]
    cases k with
    | zero =>
      rw [Nat.zero_mul, Nat.zero_add, List.getElem?_append_left (by simp [sCells]; omega)]
      rfl
    | succ k =>
      rw [List.getElem?_append_right (by simp [sCells]; omega)]
      have := ih k (by simpa using h) j hj
      simp only [List.getElem_cons_succ]
      rw [← this]
      unfold sFlat
      congr 1
      simp [sCells]
      omega
theorem infoSet : (Tryz.prog.info? 50).map (fun i => (i.zero, i.size, i.bytes)) = some (some (.agg #[.string ByteArray.empty, .int .i64 0, .int .i64 0, .string ByteArray.empty, .slice none 0 0, .int .i64 0]), 6, 80) := by kernel_rfl
/-- The words of a setting: there, and not in the block of a row. -/
def WdsAt (w : World) (m : SetM) (q : Option Nat) : Prop := TxAt w m.a m.x.val.words ∧ m.x.val.words.length ≤ m.c ∧ ∀ b off, 0 < m.x.val.words.length → m.a = some ⟨b, off, none⟩ → q ≠ some b
/-- A row of settings of a call's own. -/
structure SetsAt (B : Nat) (w : World) (v : Value) (ms : List SetM) : Prop where
  row : w.ownsRow B 50 6 v ms.length (sFlat ms)
  wds : ∀ m ∈ ms, WdsAt w m v.ownBlock
section
variable {B B' : Nat} {w w' : World} {v v' : Value} {ms : List SetM} {m : SetM} {q : Option Nat}
theorem SetsAt.nil_ (B : Nat) (w : World) : SetsAt B w (.slice none 0 0) [] := ⟨World.ownsRow_nil _ _ _ _, fun m hm => by cases hm⟩
theorem WdsAt.below (h : WdsAt w m q) (hb : Below w.heap.size w w') : WdsAt w' m q := ⟨h.1.below hb, h.2.1, h.2.2⟩
theorem SetsAt.below (h : SetsAt B w v ms) (hb : Below w.heap.size w w') : SetsAt B w' v ms := ⟨rowBelow h.row hb, fun m hm => (h.wds m hm).below hb⟩
/-- What a row's growing leaves of words. -/
theorem WdsAt.grownTx (h : WdsAt w m q) (hg : w.grownBy w' q) : TxAt w' m.a m.x.val.words := by
  rcases Nat.eq_zero_or_pos m.x.val.words.length with h0 | h0
  · intro k hk; omega
  · exact h.1.other hg fun b off e => h.2.2 b off h0 e
theorem WdsAt.lt (h : WdsAt w m q) (hn : 0 < m.x.val.words.length) : ∃ b off, m.a = some ⟨b, off, none⟩ ∧ b < w.heap.size := by
  obtain ⟨b, off, e, hl, _⟩ := h.1 0 hn
  exact ⟨b, off, e, hl⟩
/-- A row that grew by one setting. -/
theorem SetsAt.push (h : SetsAt B w v ms) {n B2 : Nat} (hn : m.x.val.words.length = n) (hw : w.ownsRow B2 9 1 (.slice m.a n m.c) n (m.x.val.words.map Value.string)) (hr : w'.ownsRow B 50 6 v' (ms.length + 1) (sFlat ms ++ sCells m)) {o : Obj} (hg : (w.alloc o).grownBy w' v.ownBlock) (hi : ∀ g, v'.ownBlock = some g → v.ownBlock = some g ∨ w.heap.size ≤ g) : SetsAt B w' v' (ms ++ [m]) := by
  have hg2 := grownAlloc hg
  refine ⟨by rw [List.length_append, sFlat_snoc]; exact hr, fun m0 hm => ?_⟩
  rcases List.mem_append.1 hm with hm | hm
  · have h0 := h.wds m0 hm
    refine ⟨h0.grownTx hg2, h0.2.1, fun b off hpos e hq => ?_⟩
    obtain ⟨b', off', e', hl⟩ := h0.lt hpos
    obtain ⟨rfl, rfl⟩ : b = b' ∧ off = off' := by simpa using e.symm.trans e'
    rcases hi b hq with h1 | h1
    · exact h0.2.2 b off hpos e h1
    · omega
  · rw [List.mem_singleton.1 hm]
    have hw2 := rowGrown hw h.row (by decide) hg
    have hx : OwnX w w' (.slice m.a n m.c) m.x.val.words → TxAt w' m.a m.x.val.words := fun h => h.tx
    refine ⟨?_, ?_, fun b off hpos e hq => ?_⟩
    · intro k hk
      rcases hw2.2 with ⟨h1, h2⟩ | ⟨g, cap, cur, h1, _, hgg, _⟩
      · omega
      · injection h1 with h1 _ _
        refine ⟨g, 0, h1, heap_lt hgg, ?_⟩
        have hv := hw2
        rw [h1] at hv
        rw [Nat.zero_add, hv.cellAt k (by omega), List.getElem?_map, List.getElem?_eq_getElem hk]; rfl
    · rcases hw2.2 with ⟨h1, h2⟩ | ⟨g, cap, cur, h1, _, _, hnc, _⟩
      · omega
      · injection h1 with _ _ h3
        omega
    · have := rowApart hw2 hr (by decide)
      rcases this with h1 | h1
      · rw [e] at h1; simp [Value.ownBlock] at h1
      · rw [e] at h1
        exact h1 (by rw [hq]; rfl)
/-- Settings in memory, read. -/
theorem SetsAt.cells (h : SetsAt B w v ms) {k : Nat} (hk : k < ms.length) : ∃ b c, v = .slice (some ⟨b, 0, none⟩) ms.length c ∧ b < w.heap.size ∧ ∀ j, j < 6 → w.cell? ⟨b, k * 6 + j, none⟩ = (sCells ms[k])[j]? := by
  have hs := sFlat_len ms
  rcases h.row.2 with ⟨h1, h2⟩ | ⟨g, cap, cur, h1, _, hg, _⟩
  · omega
  · have hv := h.row
    rw [h1] at hv
    refine ⟨g, cap, h1, heap_lt hg, fun j hj => ?_⟩
    rw [hv.cellAt (k * 6 + j) (by omega), sFlat_at ms k hk j hj]
theorem SetsAt.form (h : SetsAt B w v ms) : ∃ x c, v = .slice x ms.length c := own_form h.row
end
/-- A setting goes to a row of settings of a call's own. -/
theorem appendSt {ops : Array Oper} {rest : List Oper} {o : Oper} {a : Act} {Q : Exit → Act → World → Prop} (hgd : o.guard = none) (s x : Operand)
    (ho : o.op = .call { callee := .builtin .append, args := #[s, x], argTypes := #[40, 40] }) {B n : Nat} {w : World} {v : Value} {ms : List SetM} (hown : w.ownsRow B 50 6 v n (sFlat ms)) (hB : B ≤ w.heap.size) (hn : n ≤ 10000000000) (m : SetM) (cs : Array Value) (hcs : cs = (sCells m).toArray) (hs : a.eval s = v)
    {c g : Nat} (hx : a.eval x = .slice (some ⟨g, 0, none⟩) 1 c) (hg : g = w.heap.size)
    (h : ∀ y cap w', w'.ownsRow B 50 6 (.slice (some ⟨y, 0, none⟩) (n + 1) cap) (n + 1) (sFlat ms ++ sCells m) → (w.alloc (Obj.cells cs 50)).grownBy w' v.ownBlock → (v.ownBlock = some y ∨ w.heap.size ≤ y) → wpList Tryz.prog ops Q rest (a.put o.dst (.slice (some ⟨y, 0, none⟩) (n + 1) cap)) w') :
    wpList Tryz.prog ops Q (o :: rest) a (w.alloc (Obj.cells cs 50)) := by
  subst hg hcs
  obtain ⟨i0, hi, hz0, hz1, hz2⟩ := info_parts infoSet
  refine wpList_append_lies _ hgd s x _ ho B 50 i0 _ 6 80 Tryz.underlying40 hi hz0 hz1 hz2 rfl (by decide) v n (sFlat ms) hs (hown.alloc _) ⟨w.heap.size, 0, none⟩ 1 c (sCells m) hx rfl (World.news_of_block (heap_alloc_new w _)) (sCells_one m) (by decide) (by unfold maxLen; omega) (by omega) (Nat.le_trans hB (below_one w _).size) _ rfl ?_
  intro y cap w1 h1 h2 h3 _
  exact h y cap w1 h1 h2 (h3.imp id fun h3 => by rw [h3]; exact (below_one w _).size)
/-- The same as one step of a region that draws its order. -/
theorem stepSt {ops : Array Oper} {o : Oper} {a : Act} {W : World} {K : Act → World → Prop} {Q : Exit → Act → World → Prop} {E : Prop} (hgd : o.guard = none) (sl x : Operand)
    (ho : o.op = .call { callee := .builtin .append, args := #[sl, x], argTypes := #[40, 40] }) {B n : Nat} {v : Value} {ms : List SetM} (hown : W.ownsRow B 50 6 v n (sFlat ms)) (hB : B ≤ W.heap.size) (hn : n ≤ 10000000000) (m : SetM) (hs : a.eval sl = v)
    {g c : Nat} (hx : a.eval x = .slice (some ⟨g, 0, none⟩) 1 c) (hk : ∀ j u, (sCells m)[j]? = some u → W.cell? ⟨g, j, none⟩ = some u)
    (h : ∀ y cap W2, W2.ownsRow B 50 6 (.slice (some ⟨y, 0, none⟩) (n + 1) cap) (n + 1) (sFlat ms ++ sCells m) → W.grownBy W2 v.ownBlock → (v.ownBlock = some y ∨ W.heap.size ≤ y) → K (a.put o.dst (.slice (some ⟨y, 0, none⟩) (n + 1) cap)) W2) :
    if Region.wanted o (yielded ops a.tmps) = true then Oper.wp Tryz.prog o a W K Q else E := by
  obtain ⟨i0, hi, hz0, hz1, hz2⟩ := info_parts infoSet
  refine step_append_lies _ hgd sl x _ ho B 50 i0 _ 6 80 Tryz.underlying40 hi hz0 hz1 hz2 rfl (by decide) v n (sFlat ms) hs hown ⟨g, 0, none⟩ 1 c (sCells m) hx rfl (fun j u hu => by rw [add_zero_at]; exact hk j u hu) (sCells_one m) (by decide) (by unfold maxLen; omega) (by omega) hB _ rfl ?_
  intro y cap W2 h1 h2 h3 _
  exact h y cap W2 h1 h2 (h3.imp id fun h3 => by rw [h3]; exact Nat.le_refl _)
/-- The object of settings of layer 9's document: its definitions and its settings. -/
def SObj (w : World) (X : Nat) (kv lv : Value) : Prop := ∃ fr, w.heap[X]? = some (Obj.cells #[kv, lv] 87 fr)
theorem SObj.below {w w' : World} {X : Nat} {kv lv : Value} (h : SObj w X kv lv) (hb : Below w.heap.size w w') : SObj w' X kv lv := by
  obtain ⟨fr, h⟩ := h
  exact ⟨fr, (hb.block X (heap_ltF h)).trans h⟩
theorem SObj.cells {w : World} {X : Nat} {kv lv : Value} (h : SObj w X kv lv) : w.cell? ⟨X, 0, none⟩ = some kv ∧ w.cell? ⟨X, 1, none⟩ = some lv := by
  obtain ⟨fr, h⟩ := h
  exact ⟨by rw [cell_of_row w X 0 _ _ _ h]; rfl, by rw [cell_of_row w X 1 _ _ _ h]; rfl⟩
/-- Where a name stands; -1: it is none. -/
def placeGo (s : ByteArray) : List ByteArray → Nat → Int
  | [], _ => -1
  | n :: r, k => if (n.toList == s.toList) = true then k else placeGo s r (k + 1)
def placeN (ns : List ByteArray) (s : ByteArray) : Int := placeGo s ns 0
theorem placeGo_drop (s : ByteArray) (ns : List ByteArray) (k : Nat) (h : k < ns.length) : placeGo s (ns.drop k) k = if (ns[k].toList == s.toList) = true then (k : Int) else placeGo s (ns.drop (k + 1)) (k + 1) := by
  rw [List.drop_eq_getElem_cons h, placeGo]
def namesM (ms : List SetM) : List ByteArray := ms.map (·.x.name)
set_option maxHeartbeats 1600000 in
set_option maxRecDepth 100000 in
theorem splace_any (B X : Nat) (w : World) (kv lv : Value) (ms : List SetM) (s : ByteArray) (hX : SObj w X kv lv) (h : SetsAt B w lv ms) (hn : ms.length ≤ 4294967280) :
    Calls Tryz.prog 73 #[.pointer (some ⟨X, 0, none⟩), .string s] w fun e w' => e = .returned (.int .i64 (placeN (namesM ms) s)) ∧ w = w' := by
  obtain ⟨R, hR⟩ : ∃ R, placeN (namesM ms) s = R := ⟨_, rfl⟩
  have HR : Hid (placeGo s ((namesM ms).drop 0) 0 = R) := Lib.hid hR
  rw [hR]
  obtain ⟨x0, c0', hlv⟩ := h.form
  obtain ⟨n, hn'⟩ : ∃ n, ms.length = n := ⟨_, rfl⟩
  have HN := Lib.hid hn'
  have H := Lib.hid h
  obtain ⟨x0', x1'⟩ := hX.cells
  rw [hn'] at hlv hn
  subst hlv
  clear hX h hn' hR
  go_enter Tryz.func73, Tryz.ntmps73
  go_wp2
  go_loopw [5] (fun i wr => ∃ k : Nat, i = .int .i64 k ∧ k ≤ n ∧ Hid (placeGo s ((namesM ms).drop k) k = R) ∧ w = wr) (fun i _ => n - (intOf i).toNat)
  case atStart => exact ⟨0, rfl, by omega, HR, rfl⟩
  case round =>
    clear HR
    obtain ⟨k, rfl, hk, HR, rfl⟩ := hrel
    by_cases hlt : k < n
    · have q1 : (0 : Int) ≤ k := by omega
      have q2 : (k : Int) < n := by omega
      have hkm : k < ms.length := by rw [HN.out]; exact hlt
      obtain ⟨b, c, hbe, _, hcs⟩ := H.out.cells hkm
      injection hbe with hbe hx1 hx2
      have c0 := hcs 0 (by decide)
      rw [Nat.add_zero] at c0
      have hRR := HR.out
      rw [placeGo_drop s (namesM ms) k (by unfold namesM; rw [List.length_map]; exact hkm)] at hRR
      have hnm : (namesM ms)[k]'(by unfold namesM; rw [List.length_map]; exact hkm) = ms[k].x.name := by simp [namesM]
      rw [hnm] at hRR
      replace c0 : w.cell? ⟨b, k * 6, none⟩ = some (.string ms[k].x.name) := c0
      generalize ms[k].x.name = nm at c0 hRR
      have HRR := Lib.hid hRR
      subst hbe
      clear hcs hnm hRR hx1 hx2 hkm HR
      by_cases he : (nm.toList == s.toList) = true
      · have hRk : Hid ((k : Int) = R) := Lib.hid (by have := HRR.out; rwa [if_pos he] at this)
        clear HRR
        go_wp2
        go_ret
        exact ⟨by rw [← hRk.out]; rfl, rfl⟩
      · have he2 : (nm.toList == s.toList) = false := by simpa using he
        have HR2 : Hid (placeGo s ((namesM ms).drop (k + 1)) (k + 1) = R) := Lib.hid (by have := HRR.out; rwa [if_neg he] at this)
        clear HRR he
        go_wp2
        go_roundw
        case rel => exact ⟨k + 1, by go_num, by omega, HR2, by first | rfl | trivial⟩
        case measure => simp [intOf]; omega
    · obtain rfl : k = n := by omega
      have q2 : ¬ (k : Int) < k := by omega
      have HR2 : Hid ((-1 : Int) = R) := Lib.hid (by
        have := HR.out
        rwa [List.drop_eq_nil_of_le (by unfold namesM; rw [List.length_map, HN.out]; exact Nat.le_refl _), placeGo] at this)
      clear HR
      go_wp2
      go_ret
      exact ⟨by rw [← HR2.out]; rfl, rfl⟩
end Go.Proofs.YtopghlnoklajkaaGreatDoor

namespace Go.Proofs.YtopghlnoklajkaaGreatDoor
open Go.ChangeShapes Go.WideShapes Go.ChangeAt Go.RowKit

theorem ownLess {w : World} {B B' : Nat} {e : TypeId} {size n : Nat} {v : Value} {xs : List Value} (h : w.ownsRow B' e size v n xs) (hB : B ≤ B') : w.ownsRow B e size v n xs := by
  refine ⟨h.1, ?_⟩
  rcases h.2 with h2 | ⟨g, cap, cur, h1, h2, h3⟩
  · exact .inl h2
  · exact .inr ⟨g, cap, cur, h1, Nat.le_trans hB h2, h3⟩
theorem setGrown (w : World) (S i : Nat) (u : Value) : w.grownBy (w.setCell ⟨S, i, none⟩ u) (some S) := ⟨rfl, rfl, rfl, by simp [World.setCell], fun q _ hne => Below.heap_setCell _ _ _ _ (fun e => hne (by rw [e]))⟩
/-- A store below a row leaves it. -/
theorem rowSet {w : World} {B S i : Nat} {e : TypeId} {size n : Nat} {v u : Value} {xs : List Value} (h : w.ownsRow B e size v n xs) (hS : S < B) : (w.setCell ⟨S, i, none⟩ u).ownsRow B e size v n xs :=
  h.kept (setGrown w S i u) (.inr fun hq => by have := (h.lt S hq).1; omega)
theorem five_cells (w w3 : World) (S : Nat) (a b c d e : Value) {B n : Nat} {v : Value} {xs : List Value} (hb : Below w.heap.size w w3) (hS : w.heap.size ≤ S) (hB : S + 2 ≤ B) (h : w3.ownsRow B 9 1 v n xs) :
    (((((w3.setCell ⟨S, 3, none⟩ a).setCell ⟨S + 1, 0, none⟩ b).setCell ⟨S + 1, 1, none⟩ c).setCell ⟨S + 1, 2, none⟩ d).setCell ⟨S + 1, 3, none⟩ e).ownsRow w.heap.size 9 1 v n xs ∧
    Below w.heap.size w (((((w3.setCell ⟨S, 3, none⟩ a).setCell ⟨S + 1, 0, none⟩ b).setCell ⟨S + 1, 1, none⟩ c).setCell ⟨S + 1, 2, none⟩ d).setCell ⟨S + 1, 3, none⟩ e) := by
  refine ⟨ownLess ?_ (show w.heap.size ≤ B by omega), ?_⟩
  · exact rowSet (rowSet (rowSet (rowSet (rowSet h (by omega)) (by omega)) (by omega)) (by omega)) (by omega)
  · exact ((((hb.setCell (p := ⟨S, 3, none⟩) hS a).setCell (p := ⟨S + 1, 0, none⟩) (show w.heap.size ≤ S + 1 by omega) b).setCell (p := ⟨S + 1, 1, none⟩) (show w.heap.size ≤ S + 1 by omega) c).setCell (p := ⟨S + 1, 2, none⟩) (show w.heap.size ≤ S + 1 by omega) d).setCell (p := ⟨S + 1, 3, none⟩) (show w.heap.size ≤ S + 1 by omega) e
set_option maxHeartbeats 1600000 in
set_option maxRecDepth 100000 in
theorem sown_any (w : World) (v : Val) (x : Option Addr) (c : Nat) (h : TxAt w x v.words) (hl : v.words.length ≤ 4294967280) :
    Calls Tryz.prog 36 #[argV v x c] w fun e w' => ∃ y d, e = .returned (argV v y d) ∧ w'.ownsRow w.heap.size 9 1 (.slice y v.words.length d) v.words.length (v.words.map Value.string) ∧ Below w.heap.size w w' := by
  obtain ⟨kd, it, tx, ws⟩ := v
  simp only at h hl ⊢
  obtain ⟨n, hn⟩ : ∃ n, ws.length = n := ⟨_, rfl⟩
  have HN := Lib.hid hn
  have HB : Hid (∀ o1 o2, TxAt ((w.alloc o1).alloc o2) x ws ∧ Below w.heap.size w ((w.alloc o1).alloc o2)) := Lib.hid fun o1 o2 => by
    have hb := (below_one w o1).trans ((below_one (w.alloc o1) o2).mono (below_one w o1).size)
    exact ⟨h.below hb, hb⟩
  have HX : Hid (∀ t1 o2, Box4 ((w.alloc (Obj.cells #[.int .i64 kd, .int .i64 it, .string tx, .slice x ws.length c] t1)).alloc o2) w.heap.size (.int .i64 kd) (.int .i64 it) (.string tx) (.slice x ws.length c)) := Lib.hid fun t1 o2 => (box4_new w _ _ _ _ t1).below (below_one _ _)
  have HZ : Hid (∀ o1 t2, Box4 ((w.alloc o1).alloc (Obj.cells #[.int .i64 0, .int .i64 0, .string ⟨#[]⟩, .slice none 0 0] t2)) (w.heap.size + 1) (.int .i64 0) (.int .i64 0) (.string ⟨#[]⟩) (.slice none 0 0)) := Lib.hid fun o1 t2 => by
    have := box4_new (w.alloc o1) (.int .i64 0) (.int .i64 0) (.string ⟨#[]⟩) (.slice none 0 0) t2
    simpa using this
  have HF : Hid (∀ w2 w3 z cap a b c d e, Below w.heap.size w w2 → w2.heap.size = w.heap.size + 2 → OwnX w2 w3 (.slice z n cap) ws → (((((w3.setCell ⟨w.heap.size, 3, none⟩ a).setCell ⟨w.heap.size + 1, 0, none⟩ b).setCell ⟨w.heap.size + 1, 1, none⟩ c).setCell ⟨w.heap.size + 1, 2, none⟩ d).setCell ⟨w.heap.size + 1, 3, none⟩ e).ownsRow w.heap.size 9 1 (.slice z n cap) n (ws.map Value.string) ∧ Below w.heap.size w (((((w3.setCell ⟨w.heap.size, 3, none⟩ a).setCell ⟨w.heap.size + 1, 0, none⟩ b).setCell ⟨w.heap.size + 1, 1, none⟩ c).setCell ⟨w.heap.size + 1, 2, none⟩ d).setCell ⟨w.heap.size + 1, 3, none⟩ e)) := Lib.hid fun w2 w3 z cap a b c d e h1 h2 h3 => by
    have h4 := h3.own
    rw [HN.out] at h4
    exact five_cells w w3 w.heap.size a b c d e (h1.trans (h3.below.mono h1.size)) (Nat.le_refl _) (by omega) h4
  unfold argV
  simp only
  rw [hn] at hl HX ⊢
  clear h hn
  go_enter Tryz.func36, Tryz.ntmps36
  go_wp2_with (at_builtin; refine append0 rfl _ _ rfl (HB.out _ _).1 HN.out rfl rfl (by omega) ?_; intro z cap w3 ho; obtain ⟨c0, c1, c2, c3, f0, f1, f2, f3⟩ := (HX.out _ _).below ho.below; obtain ⟨d0, d1, d2, d3, g0, g1, g2, g3⟩ := (HZ.out _ _).below ho.below; have HO := Lib.hid (fun a b c d e => HF.out _ _ _ _ a b c d e (HB.out _ _).2 (by simp) ho); clear ho)
  obtain ⟨o1, o2⟩ := HO.out (.slice z n cap) (.int .i64 kd) (.int .i64 it) (.string tx) (.slice z n cap)
  exact bodyPost_ret (v := .agg #[.int .i64 kd, .int .i64 it, .string tx, .slice z n cap]) (by simp [results, Tryz.results36, go_sem, d0, d1, d2, d3]) rfl ⟨z, cap, rfl, o1, o2⟩
end Go.Proofs.YtopghlnoklajkaaGreatDoor

namespace Go.Proofs.YtopghlnoklajkaaGreatDoor
open Go.ChangeShapes Go.WideShapes Go.ChangeAt Go.RowKit

end Go.Proofs.YtopghlnoklajkaaGreatDoor

namespace Go.Proofs.YtopghlnoklajkaaGreatDoor
open Go.ChangeShapes Go.WideShapes Go.ChangeAt Go.RowKit

end Go.Proofs.YtopghlnoklajkaaGreatDoor

namespace Go.Proofs.YtopghlnoklajkaaGreatDoor
open Go.ChangeShapes Go.WideShapes Go.ChangeAt Go.RowKit

end Go.Proofs.YtopghlnoklajkaaGreatDoor

namespace Go.Proofs.YtopghlnoklajkaaGreatDoor
open Go.ChangeShapes Go.WideShapes Go.ChangeAt Go.RowKit

/-- The object that the document's Expand works with. -/
def WObj (w : World) (X : Nat) (lv pv ev mv tv dv : Value) : Prop := ∃ fr, w.heap[X]? = some (Obj.cells #[lv, pv, ev, mv, tv, dv] 99 fr)
theorem WObj.below {w w' : World} {X : Nat} {lv pv ev mv tv dv : Value} (h : WObj w X lv pv ev mv tv dv) (hb : Below w.heap.size w w') : WObj w' X lv pv ev mv tv dv := by
  obtain ⟨fr, h⟩ := h
  exact ⟨fr, (hb.block X (heap_ltF h)).trans h⟩
theorem WObj.cells {w : World} {X : Nat} {lv pv ev mv tv dv : Value} (h : WObj w X lv pv ev mv tv dv) : w.cell? ⟨X, 0, none⟩ = some lv ∧ w.cell? ⟨X, 1, none⟩ = some pv ∧ w.cell? ⟨X, 2, none⟩ = some ev ∧ w.cell? ⟨X, 3, none⟩ = some mv ∧ w.cell? ⟨X, 4, none⟩ = some tv ∧ w.cell? ⟨X, 5, none⟩ = some dv := by
  obtain ⟨fr, h⟩ := h
  refine ⟨?_, ?_, ?_, ?_, ?_, ?_⟩
  all_goals rw [cell_of_row w X _ _ _ _ h]; rfl
/-- A new block is a row of a call's own. -/
theorem newRow {w w' : World} {B : Nat} {e : TypeId} {size n : Nat} (hB : B ≤ w.heap.size) (xs : List Value) (hn : xs.length = n * size) (hl : n ≤ maxLen) (h : w' = w.alloc (Obj.cells xs.toArray e)) : w'.ownsRow B e size (.slice (some ⟨w.heap.size, 0, none⟩) n n) n xs := by
  subst h
  refine ⟨hn, .inr ⟨w.heap.size, n, xs.toArray, rfl, hB, heap_alloc_new _ _, Nat.le_refl _, hl, by simpa using hn, ?_⟩⟩
  rw [List.toList_toArray, List.take_of_length_le (by omega)]
end Go.Proofs.YtopghlnoklajkaaGreatDoor

namespace Go.Proofs.YtopghlnoklajkaaGreatDoor
open Go.ChangeShapes Go.WideShapes Go.ChangeAt Go.RowKit

def mayV (k : KeyV) (v : Val) : Bool := rightV v && withinV v k.least k.most && decide (v.kind = k.kind)
set_option maxHeartbeats 1600000 in
set_option maxRecDepth 100000 in
theorem smay_any (w : World) (k : KeyV) (v : Val) (x : Option Addr) (c : Nat) (h : ArgOk w v x c) (hl : v.words.length ≤ 2147483647) :
    Calls Tryz.prog 74 #[kAgg k, argV v x c] w fun e w' => e = .returned (.bool (mayV k v)) ∧ Below w.heap.size w w' := by
  have HB : Hid (∀ o1 o2, Below w.heap.size w ((w.alloc o1).alloc o2)) := Lib.hid fun o1 o2 => (below_one w o1).trans ((below_one (w.alloc o1) o2).mono (below_one w o1).size)
  have HRT : Hid (∀ W, Below w.heap.size w W → Calls Tryz.prog 107 #[argV v x c] W fun e w' => e = .returned (.bool (rightV v)) ∧ Below W.heap.size W w') := Lib.hid fun W hb => refRight_any W v x c (h.below hb) hl
  have HWT : Hid (∀ W, Below w.heap.size w W → Calls Tryz.prog 102 #[argV v x c, .int .i64 k.least, .int .i64 k.most] W fun e w' => e = .returned (.bool (withinV v k.least k.most)) ∧ Below W.heap.size W w') := Lib.hid fun W hb => refWithin_any W v x c k.least k.most (h.below hb) hl
  have HX4 : Hid (∀ o1 t2, Box4 ((w.alloc o1).alloc (Obj.cells #[.int .i64 v.kind, .int .i64 v.int, .string v.text, .slice x v.words.length c] t2)) (w.heap.size + 1) (.int .i64 v.kind) (.int .i64 v.int) (.string v.text) (.slice x v.words.length c)) := Lib.hid fun o1 t2 => by
    have := box4_new (w.alloc o1) (.int .i64 v.kind) (.int .i64 v.int) (.string v.text) (.slice x v.words.length c) t2
    rw [World.size_alloc] at this
    exact this
  have HX6 : Hid (∀ t1 o2, Box6 ((w.alloc (Obj.cells #[.string k.name, .int .i64 k.kind, .string k.dflt, .int .i64 k.least, .int .i64 k.most, .string k.letter] t1)).alloc o2) w.heap.size k) := Lib.hid fun t1 o2 => (box6_new w k t1).below (below_one _ _)
  obtain ⟨R, hR⟩ : ∃ R, mayV k v = R := ⟨_, rfl⟩
  have HR : Hid ((rightV v && withinV v k.least k.most && decide (v.kind = k.kind)) = R) := Lib.hid hR
  rw [hR]
  clear h hl hR
  generalize rightV v = r1 at *
  generalize withinV v k.least k.most = r2 at *
  obtain ⟨nm, kd, dl, la, lb, le⟩ := k
  obtain ⟨vk, vi, vt, vw⟩ := v
  unfold argV at *
  unfold kAgg
  simp only at HRT HWT HX4 HX6 HR ⊢
  go_enter Tryz.func74, Tryz.ntmps74
  go_wp2_with fail
  refine (HRT.out _ (HB.out _ _)).mono ?_
  rintro e w3 ⟨rfl, hb3⟩
  obtain ⟨c0, c1, c2, c3, _⟩ := (HX4.out _ _).below hb3
  have hx6 := (HX6.out _ _).below hb3
  have HB3 := Lib.hid ((HB.out _ _).trans (hb3.mono (HB.out _ _).size))
  have HX6b := Lib.hid hx6
  have d1 := hx6.c1
  have d3 := hx6.c3
  have d4 := hx6.c4
  simp only at d1 d3 d4
  clear hb3 hx6 HRT
  go_wp2_with fail
  refine (HWT.out _ HB3.out).mono ?_
  rintro e w4 ⟨rfl, hb4⟩
  have HB4 := Lib.hid (HB3.out.trans (hb4.mono HB3.out.size))
  have d1' : w4.cell? ⟨w.heap.size, 1, none⟩ = some (.int .i64 kd) := (hb4.cell (p := ⟨w.heap.size, 1, none⟩) (lt_of_cell d1)).trans d1
  have c0' : w4.cell? ⟨w.heap.size + 1, 0, none⟩ = some (.int .i64 vk) := (hb4.cell (p := ⟨w.heap.size + 1, 0, none⟩) (lt_of_cell c0)).trans c0
  clear hb4 c0 c1 c2 c3 d1 d3 d4 HWT HB3 HX6b HX4 HX6 HB
  cases r1 with
  | false =>
    go_wp2
    go_ret
    exact ⟨by rw [← HR.out]; rfl, HB4.out⟩
  | true =>
    cases r2 with
    | false =>
      go_wp2
      go_ret
      exact ⟨by rw [← HR.out]; rfl, HB4.out⟩
    | true =>
      have HR2 : Hid (decide (vk = kd) = R) := Lib.hid (by have := HR.out; simpa using this)
      go_wp2
      go_ret
      exact ⟨by rw [← HR2.out]; rfl, HB4.out⟩
end Go.Proofs.YtopghlnoklajkaaGreatDoor
