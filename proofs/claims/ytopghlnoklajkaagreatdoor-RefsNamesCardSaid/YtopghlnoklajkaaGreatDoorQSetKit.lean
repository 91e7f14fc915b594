/-
  SetKit.
-/
import Derived.Test.YtopghlnoklajkaaGreatDoorQTxKit
import Derived.Test.YtopghlnoklajkaaGreatDoorQRefsRow
namespace Go.Proofs.YtopghlnoklajkaaGreatDoor
open Go.ChangeShapes Go.WideShapes Go.ChangeAt Go.RowKit

/-- A setting. -/
structure SetV where
  name : ByteArray
  val : Val
  from_ : Int
/-- A setting in memory: where its words lie. -/
structure SetM where
  x : SetV
  a : Option Addr
  c : Nat
def sCells (m : SetM) : List Value := [.string m.x.name, .int .i64 m.x.val.kind, .int .i64 m.x.val.int, .string m.x.val.text, .slice m.a m.x.val.words.length m.c, .int .i64 m.x.from_]
def sFlat (ms : List SetM) : List Value := ms.flatMap sCells
theorem sFlat_len (ms : List SetM) : (sFlat ms).length = ms.length * 6 := by
  unfold sFlat
  induction ms with
  | nil => rfl
  | cons m r ih => rw [List.flatMap_cons, List.length_append, ih]; simp [sCells]; omega
theorem sFlat_app (a b : List SetM) : sFlat (a ++ b) = sFlat a ++ sFlat b := by unfold sFlat; rw [List.flatMap_append]
theorem sFlat_snoc (a : List SetM) (m : SetM) : sFlat (a ++ [m]) = sFlat a ++ sCells m := by rw [sFlat_app]; simp [sFlat]
theorem sCells_one (m : SetM) : ∀ v ∈ sCells m, v.oneCell' = true := by
  intro v hv
  unfold sCells at hv
  simp only [List.mem_cons, List.not_mem_nil, or_false] at hv
  rcases hv with rfl | rfl | rfl | rfl | rfl | rfl <;> rfl
theorem sFlat_at (l : List SetM) : ∀ k (h : k < l.length) j, j < 6 → (sFlat l)[k * 6 + j]? = (sCells l[k])[j]? := by
  induction l with
  | nil => intro k h; simp at h
  | cons m r ih =>
    intro k h j hj
    unfold sFlat
    rw [List.flatMap_cons]
    cases k with
    | zero =>
      rw [Nat.zero_mul, Nat.zero_add, List.getElem?_append_left (by simp [sCells]; omega)]
      rfl
    | succ k =>
      rw [List.getElem?_append_right (by simp [sCells]; omega)]
      have := ih k (by simpa using h) j hj
      simp only [List.getElem_cons_succ]
      rw [← this]
      unfold sFlat
      congr 1
      simp [sCells]
      omega
theorem infoSet : (Tryz.prog.info? 50).map (fun i => (i.zero, i.size, i.bytes)) = some (some (.agg #[.string ByteArray.empty, .int .i64 0, .int .i64 0, .string ByteArray.empty, .slice none 0 0, .int .i64 0]), 6, 80) := by kernel_rfl
/-- The words of a setting: there, and not in the block of a row. -/
def WdsAt (w : World) (m : SetM) (q : Option Nat) : Prop := TxAt w m.a m.x.val.words ∧ m.x.val.words.length ≤ m.c ∧ ∀ b off, 0 < m.x.val.words.length → m.a = some ⟨b, off, none⟩ → q ≠ some b
/-- A row of settings of a call's own. -/
structure SetsAt (B : Nat) (w : World) (v : Value) (ms : List SetM) : Prop where
  row : w.ownsRow B 50 6 v ms.length (sFlat ms)
  wds : ∀ m ∈ ms, WdsAt w m v.ownBlock
section
variable {B B' : Nat} {w w' : World} {v v' : Value} {ms : List SetM} {m : SetM} {q : Option Nat}
theorem SetsAt.nil_ (B : Nat) (w : World) : SetsAt B w (.slice none 0 0) [] := ⟨World.ownsRow_nil _ _ _ _, fun m hm => by cases hm⟩
theorem WdsAt.below (h : WdsAt w m q) (hb : Below w.heap.size w w') : WdsAt w' m q := ⟨h.1.below hb, h.2.1, h.2.2⟩
theorem SetsAt.below (h : SetsAt B w v ms) (hb : Below w.heap.size w w') : SetsAt B w' v ms := ⟨rowBelow h.row hb, fun m hm => (h.wds m hm).below hb⟩
/-- What a row's growing leaves of words. -/
theorem WdsAt.grownTx (h : WdsAt w m q) (hg : w.grownBy w' q) : TxAt w' m.a m.x.val.words := by
  rcases Nat.eq_zero_or_pos m.x.val.words.length with h0 | h0
  · intro k hk; omega
  · exact h.1.other hg fun b off e => h.2.2 b off h0 e
theorem WdsAt.lt (h : WdsAt w m q) (hn : 0 < m.x.val.words.length) : ∃ b off, m.a = some ⟨b, off, none⟩ ∧ b < w.heap.size := by
  obtain ⟨b, off, e, hl, _⟩ := h.1 0 hn
  exact ⟨b, off, e, hl⟩
/-- A row that grew by one setting. -/
theorem SetsAt.push (h : SetsAt B w v ms) {n B2 : Nat} (hn : m.x.val.words.length = n) (hw : w.ownsRow B2 9 1 (.slice m.a n m.c) n (m.x.val.words.map Value.string)) (hr : w'.ownsRow B 50 6 v' (ms.length + 1) (sFlat ms ++ sCells m)) {o : Obj} (hg : (w.alloc o).grownBy w' v.ownBlock) (hi : ∀ g, v'.ownBlock = some g → v.ownBlock = some g ∨ w.heap.size ≤ g) : SetsAt B w' v' (ms ++ [m]) := by
  have hg2 := grownAlloc hg
  refine ⟨by rw [List.length_append, sFlat_snoc]; exact hr, fun m0 hm => ?_⟩
  rcases List.mem_append.1 hm with hm | hm
  · have h0 := h.wds m0 hm
    refine ⟨h0.grownTx hg2, h0.2.1, fun b off hpos e hq => ?_⟩
    obtain ⟨b', off', e', hl⟩ := h0.lt hpos
    obtain ⟨rfl, rfl⟩ : b = b' ∧ off = off' := by simpa using e.symm.trans e'
    rcases hi b hq with h1 | h1
    · exact h0.2.2 b off hpos e h1
    · omega
  · rw [List.mem_singleton.1 hm]
    have hw2 := rowGrown hw h.row (by decide) hg
    have hx : OwnX w w' (.slice m.a n m.c) m.x.val.words → TxAt w' m.a m.x.val.words := fun h => h.tx
    refine ⟨?_, ?_, fun b off hpos e hq => ?_⟩
    · intro k hk
      rcases hw2.2 with ⟨h1, h2⟩ | ⟨g, cap, cur, h1, _, hgg, _⟩
      · omega
      · injection h1 with h1 _ _
        refine ⟨g, 0, h1, heap_lt hgg, ?_⟩
        have hv := hw2
        rw [h1] at hv
        rw [Nat.zero_add, hv.cellAt k (by omega), List.getElem?_map, List.getElem?_eq_getElem hk]; rfl
    · rcases hw2.2 with ⟨h1, h2⟩ | ⟨g, cap, cur, h1, _, _, hnc, _⟩
      · omega
      · injection h1 with _ _ h3
        omega
    · have := rowApart hw2 hr (by decide)
      rcases this with h1 | h1
      · rw [e] at h1; simp [Value.ownBlock] at h1
      · rw [e] at h1
        exact h1 (by rw [hq]; rfl)
/-- Settings in memory, read. -/
theorem SetsAt.cells (h : SetsAt B w v ms) {k : Nat} (hk : k < ms.length) : ∃ b c, v = .slice (some ⟨b, 0, none⟩) ms.length c ∧ b < w.heap.size ∧ ∀ j, j < 6 → w.cell? ⟨b, k * 6 + j, none⟩ = (sCells ms[k])[j]? := by
  have hs := sFlat_len ms
  rcases h.row.2 with ⟨h1, h2⟩ | ⟨g, cap, cur, h1, _, hg, _⟩
  · omega
  · have hv := h.row
    rw [h1] at hv
    refine ⟨g, cap, h1, heap_lt hg, fun j hj => ?_⟩
    rw [hv.cellAt (k * 6 + j) (by omega), sFlat_at ms k hk j hj]
theorem SetsAt.form (h : SetsAt B w v ms) : ∃ x c, v = .slice x ms.length c := own_form h.row
end
/-- A setting goes to a row of settings of a call's own. -/
theorem appendSt {ops : Array Oper} {rest : List Oper} {o : Oper} {a : Act} {Q : Exit → Act → World → Prop} (hgd : o.guard = none) (s x : Operand)
    (ho : o.op = .call { callee := .builtin .append, args := #[s, x], argTypes := #[40, 40] }) {B n : Nat} {w : World} {v : Value} {ms : List SetM} (hown : w.ownsRow B 50 6 v n (sFlat ms)) (hB : B ≤ w.heap.size) (hn : n ≤ 10000000000) (m : SetM) (cs : Array Value) (hcs : cs = (sCells m).toArray) (hs : a.eval s = v)
    {c g : Nat} (hx : a.eval x = .slice (some ⟨g, 0, none⟩) 1 c) (hg : g = w.heap.size)
    (h : ∀ y cap w', w'.ownsRow B 50 6 (.slice (some ⟨y, 0, none⟩) (n + 1) cap) (n + 1) (sFlat ms ++ sCells m) → (w.alloc (Obj.cells cs 50)).grownBy w' v.ownBlock → (v.ownBlock = some y ∨ w.heap.size ≤ y) → wpList Tryz.prog ops Q rest (a.put o.dst (.slice (some ⟨y, 0, none⟩) (n + 1) cap)) w') :
    wpList Tryz.prog ops Q (o :: rest) a (w.alloc (Obj.cells cs 50)) := by
  subst hg hcs
  obtain ⟨i0, hi, hz0, hz1, hz2⟩ := info_parts infoSet
  refine wpList_append_lies _ hgd s x _ ho B 50 i0 _ 6 80 Tryz.underlying40 hi hz0 hz1 hz2 rfl (by decide) v n (sFlat ms) hs (hown.alloc _) ⟨w.heap.size, 0, none⟩ 1 c (sCells m) hx rfl (World.news_of_block (heap_alloc_new w _)) (sCells_one m) (by decide) (by unfold maxLen; omega) (by omega) (Nat.le_trans hB (below_one w _).size) _ rfl ?_
  intro y cap w1 h1 h2 h3 _
  exact h y cap w1 h1 h2 (h3.imp id fun h3 => by rw [h3]; exact (below_one w _).size)
/-- The same as one step of a region that draws its order. -/
theorem stepSt {ops : Array Oper} {o : Oper} {a : Act} {W : World} {K : Act → World → Prop} {Q : Exit → Act → World → Prop} {E : Prop} (hgd : o.guard = none) (sl x : Operand)
    (ho : o.op = .call { callee := .builtin .append, args := #[sl, x], argTypes := #[40, 40] }) {B n : Nat} {v : Value} {ms : List SetM} (hown : W.ownsRow B 50 6 v n (sFlat ms)) (hB : B ≤ W.heap.size) (hn : n ≤ 10000000000) (m : SetM) (hs : a.eval sl = v)
    {g c : Nat} (hx : a.eval x = .slice (some ⟨g, 0, none⟩) 1 c) (hk : ∀ j u, (sCells m)[j]? = some u → W.cell? ⟨g, j, none⟩ = some u)
    (h : ∀ y cap W2, W2.ownsRow B 50 6 (.slice (some ⟨y, 0, none⟩) (n + 1) cap) (n + 1) (sFlat ms ++ sCells m) → W.grownBy W2 v.ownBlock → (v.ownBlock = some y ∨ W.heap.size ≤ y) → K (a.put o.dst (.slice (some ⟨y, 0, none⟩) (n + 1) cap)) W2) :
    if Region.wanted o (yielded ops a.tmps) = true then Oper.wp Tryz.prog o a W K Q else E := by
  obtain ⟨i0, hi, hz0, hz1, hz2⟩ := info_parts infoSet
  refine step_append_lies _ hgd sl x _ ho B 50 i0 _ 6 80 Tryz.underlying40 hi hz0 hz1 hz2 rfl (by decide) v n (sFlat ms) hs hown ⟨g, 0, none⟩ 1 c (sCells m) hx rfl (fun j u hu => by rw [add_zero_at]; exact hk j u hu) (sCells_one m) (by decide) (by unfold maxLen; omega) (by omega) hB _ rfl ?_
  intro y cap W2 h1 h2 h3 _
  exact h y cap W2 h1 h2 (h3.imp id fun h3 => by rw [h3]; exact Nat.le_refl _)
/-- The object of settings of layer 9's document: its definitions and its settings. -/
def SObj (w : World) (X : Nat) (kv lv : Value) : Prop := ∃ fr, w.heap[X]? = some (Obj.cells #[kv, lv] 87 fr)
theorem SObj.below {w w' : World} {X : Nat} {kv lv : Value} (h : SObj w X kv lv) (hb : Below w.heap.size w w') : SObj w' X kv lv := by
  obtain ⟨fr, h⟩ := h
  exact ⟨fr, (hb.block X (heap_ltF h)).trans h⟩
theorem SObj.cells {w : World} {X : Nat} {kv lv : Value} (h : SObj w X kv lv) : w.cell? ⟨X, 0, none⟩ = some kv ∧ w.cell? ⟨X, 1, none⟩ = some lv := by
  obtain ⟨fr, h⟩ := h
  exact ⟨by rw [cell_of_row w X 0 _ _ _ h]; rfl, by rw [cell_of_row w X 1 _ _ _ h]; rfl⟩
/-- Where a name stands; -1: it is none. -/
def placeGo (s : ByteArray) : List ByteArray → Nat → Int
  | [], _ => -1
  | n :: r, k => if (n.toList == s.toList) = true then k else placeGo s r (k + 1)
def placeN (ns : List ByteArray) (s : ByteArray) : Int := placeGo s ns 0
theorem placeGo_drop (s : ByteArray) (ns : List ByteArray) (k : Nat) (h : k < ns.length) : placeGo s (ns.drop k) k = if (ns[k].toList == s.toList) = true then (k : Int) else placeGo s (ns.drop (k + 1)) (k + 1) := by
  rw [List.drop_eq_getElem_cons h, placeGo]
def namesM (ms : List SetM) : List ByteArray := ms.map (·.x.name)
set_option maxHeartbeats 1600000 in
set_option maxRecDepth 100000 in
theorem splace_any (B X : Nat) (w : World) (kv lv : Value) (ms : List SetM) (s : ByteArray) (hX : SObj w X kv lv) (h : SetsAt B w lv ms) (hn : ms.length ≤ 4294967280) :
    Calls Tryz.prog 73 #[.pointer (some ⟨X, 0, none⟩), .string s] w fun e w' => e = .returned (.int .i64 (placeN (namesM ms) s)) ∧ w = w' := by
  obtain ⟨R, hR⟩ : ∃ R, placeN (namesM ms) s = R := ⟨_, rfl⟩
  have HR : Hid (placeGo s ((namesM ms).drop 0) 0 = R) := Lib.hid hR
  rw [hR]
  obtain ⟨x0, c0', hlv⟩ := h.form
  obtain ⟨n, hn'⟩ : ∃ n, ms.length = n := ⟨_, rfl⟩
  have HN := Lib.hid hn'
  have H := Lib.hid h
  obtain ⟨x0', x1'⟩ := hX.cells
  rw [hn'] at hlv hn
  subst hlv
  clear hX h hn' hR
  go_enter Tryz.func73, Tryz.ntmps73
  go_wp2
  go_loopw [5] (fun i wr => ∃ k : Nat, i = .int .i64 k ∧ k ≤ n ∧ Hid (placeGo s ((namesM ms).drop k) k = R) ∧ w = wr) (fun i _ => n - (intOf i).toNat)
  case atStart => exact ⟨0, rfl, by omega, HR, rfl⟩
  case round =>
    clear HR
    obtain ⟨k, rfl, hk, HR, rfl⟩ := hrel
    by_cases hlt : k < n
    · have q1 : (0 : Int) ≤ k := by omega
      have q2 : (k : Int) < n := by omega
      have hkm : k < ms.length := by rw [HN.out]; exact hlt
      obtain ⟨b, c, hbe, _, hcs⟩ := H.out.cells hkm
      injection hbe with hbe hx1 hx2
      have c0 := hcs 0 (by decide)
      rw [Nat.add_zero] at c0
      have hRR := HR.out
      rw [placeGo_drop s (namesM ms) k (by unfold namesM; rw [List.length_map]; exact hkm)] at hRR
      have hnm : (namesM ms)[k]'(by unfold namesM; rw [List.length_map]; exact hkm) = ms[k].x.name := by simp [namesM]
      rw [hnm] at hRR
      replace c0 : w.cell? ⟨b, k * 6, none⟩ = some (.string ms[k].x.name) := c0
      generalize ms[k].x.name = nm at c0 hRR
      have HRR := Lib.hid hRR
      subst hbe
      clear hcs hnm hRR hx1 hx2 hkm HR
      by_cases he : (nm.toList == s.toList) = true
      · have hRk : Hid ((k : Int) = R) := Lib.hid (by have := HRR.out; rwa [if_pos he] at this)
        clear HRR
        go_wp2
        go_ret
        exact ⟨by rw [← hRk.out]; rfl, rfl⟩
      · have he2 : (nm.toList == s.toList) = false := by simpa using he
        have HR2 : Hid (placeGo s ((namesM ms).drop (k + 1)) (k + 1) = R) := Lib.hid (by have := HRR.out; rwa [if_neg he] at this)
        clear HRR he
        go_wp2
        go_roundw
        case rel => exact ⟨k + 1, by go_num, by omega, HR2, by first | rfl | trivial⟩
        case measure => simp [intOf]; omega
    · obtain rfl : k = n := by omega
      have q2 : ¬ (k : Int) < k := by omega
      have HR2 : Hid ((-1 : Int) = R) := Lib.hid (by
        have := HR.out
        rwa [List.drop_eq_nil_of_le (by unfold namesM; rw [List.length_map, HN.out]; exact Nat.le_refl _), placeGo] at this)
      clear HR
      go_wp2
      go_ret
      exact ⟨by rw [← HR2.out]; rfl, rfl⟩
end Go.Proofs.YtopghlnoklajkaaGreatDoor
