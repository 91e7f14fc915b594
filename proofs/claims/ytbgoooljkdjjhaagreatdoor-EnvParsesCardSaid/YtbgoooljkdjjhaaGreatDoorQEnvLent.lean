/-
  TxKit, EnvLent.
-/
import Derived.Test.YtbgoooljkdjjhaaGreatDoorQGivKit
import Derived.Laws.OwnMore
import Derived.Test.YtbgoooljkdjjhaaGreatDoorQGivOwn
import Derived.Laws.MakeOwn
namespace Go.Proofs.YtbgoooljkdjjhaaGreatDoor
open Go.ChangeShapes Go.WideShapes Go.ChangeAt Go.RowKit

theorem cell_blkT {W W' : World} {R : Nat} (h : W'.heap[R]? = W.heap[R]?) (j : Nat) : W'.cell? ⟨R, j, none⟩ = W.cell? ⟨R, j, none⟩ := by unfold World.cell?; rw [h]
theorem OwnX.tx {w0 w : World} {x : Option Addr} {n c : Nat} {ts : List ByteArray} (h : OwnX w0 w (.slice x n c) ts) : TxAt w x ts := by
  obtain ⟨x', c', e, ht⟩ := h.texts
  injection e with e1 _ _
  rw [e1]; exact ht
theorem TxAt.other {w w' : World} {x : Option Addr} {ts : List ByteArray} {q : Option Nat} (h : TxAt w x ts) (hg : w.grownBy w' q) (hne : ∀ b off, x = some ⟨b, off, none⟩ → q ≠ some b) : TxAt w' x ts := fun k hk => by
  obtain ⟨b, off, e, hl, hc⟩ := h k hk
  exact ⟨b, off, e, Nat.lt_of_lt_of_le hl hg.size, (cell_blkT (hg.block b hl (fun e' => hne b off e e'.symm)) (off + k)).trans hc⟩
/-- Where a list of a call's own lies. -/
theorem OwnX.new {w0 w : World} {x : Option Addr} {n c : Nat} {ts : List ByteArray} (h : OwnX w0 w (.slice x n c) ts) : ∀ b off, x = some ⟨b, off, none⟩ → w0.heap.size ≤ b ∧ b < w.heap.size := fun b off e => by
  subst e
  exact h.own.lt b rfl
theorem OwnX.form {w0 w : World} {x : Option Addr} {n c : Nat} {ts : List ByteArray} (h : OwnX w0 w (.slice x n c) ts) (hn : 0 < n) : ∃ g, x = some ⟨g, 0, none⟩ ∧ ts.length = n := by
  rcases h.own.2 with ⟨h1, h2⟩ | ⟨g, cap, cur, h1, _⟩
  · injection h1 with _ h3 _
    omega
  · injection h1 with h3 h4 _
    exact ⟨g, h3, h4.symm⟩
/-- A text of a list of a call's own is written over. -/
theorem OwnX.put {w0 w : World} {g n c : Nat} {ts : List ByteArray} (h : OwnX w0 w (.slice (some ⟨g, 0, none⟩) n c) ts) (hn : ts.length = n) (j : Nat) (hj : j < n) (u : ByteArray) :
    (∃ a, w.cell? ⟨g, j, none⟩ = some a) ∧ w.frozen? ⟨g, j, none⟩ = false ∧ OwnX w0 (w.setCell ⟨g, j, none⟩ (.string u)) (.slice (some ⟨g, 0, none⟩) n c) (ts.set j u) ∧ w.grownBy (w.setCell ⟨g, j, none⟩ (.string u)) (some g) := by
  subst hn
  have ho := h.own
  have hc := ho.cellAt j (by omega)
  obtain ⟨h1, h2⟩ := ho.stored j (.string u)
  refine ⟨⟨_, hc.trans (List.getElem?_eq_getElem (by simpa using hj))⟩, ho.frozenAt j, ⟨?_, h.below.setCell (p := ⟨g, j, none⟩) (h.new g 0 rfl).1 _⟩, h2⟩
  rw [List.length_set, List.map_set]
  exact h1
theorem own_apart {w0 w1 w1' w2 : World} {x1 x2 : Option Addr} {n c m d : Nat} {ts us : List ByteArray} (h1 : OwnX w0 w1 (.slice x1 n c) ts) (h2 : OwnX w1' w2 (.slice x2 m d) us) (hle : w1.heap.size ≤ w1'.heap.size) : ∀ b off, x2 = some ⟨b, off, none⟩ → (Value.slice x1 n c).ownBlock ≠ some b := fun b off e hq => by
  have := (h1.own.lt b hq).2
  have := (h2.new b off e).1
  omega
/-- As appendX, and what else stays. -/
theorem appendX2 {ops : Array Oper} {rest : List Oper} {o : Oper} {a : Act} {Q : Exit → Act → World → Prop} (hgd : o.guard = none) (s x : Operand)
    (ho : o.op = .call { callee := .builtin .append, args := #[s, x], argTypes := #[33, 33] }) {w0 w : World} {v : Value} {t : ByteArray} {ts : List ByteArray} (hown : OwnX w0 w v ts) (hn : ts.length ≤ 10000000000) (hs : a.eval s = v)
    {c g : Nat} (hx : a.eval x = .slice (some ⟨g, 0, none⟩) 1 c) (hg : g = w.heap.size)
    (h : ∀ y cap w', OwnX w0 w' (.slice (some ⟨y, 0, none⟩) (ts.length + 1) cap) (ts ++ [t]) → (w.alloc (Obj.cells #[.string t] 9)).grownBy w' v.ownBlock → wpList Tryz.prog ops Q rest (a.put o.dst (.slice (some ⟨y, 0, none⟩) (ts.length + 1) cap)) w') :
    wpList Tryz.prog ops Q (o :: rest) a (w.alloc (Obj.cells #[.string t] 9)) := by
  subst hg
  obtain ⟨i0, hi, hz0, hz1, hz2⟩ := info_parts infoTx
  have hz := hown.below.size
  refine wpList_append_lies _ hgd s x _ ho w0.heap.size 9 i0 _ 1 16 Tryz.underlying33 hi hz0 hz1 hz2 rfl (by decide) v ts.length (ts.map Value.string) hs (hown.own.alloc _) ⟨w.heap.size, 0, none⟩ 1 c [.string t] hx rfl (World.news_of_block (heap_alloc_new w _)) ?_ (by decide) (by unfold maxLen; omega) (by omega) (by have := (below_one w (Obj.cells #[.string t] 9)).size; omega) _ rfl ?_
  · intro u' hu'
    rw [List.mem_singleton.1 hu']; rfl
  · intro y cap w1 h1 h2 _ _
    exact h y cap w1 ⟨by simpa using h1, (hown.below.alloc hz _).grown h2 (by simp; omega) (fun k hk => (hown.own.lt k hk).1)⟩ h2
end Go.Proofs.YtbgoooljkdjjhaaGreatDoor

namespace Go.Proofs.YtbgoooljkdjjhaaGreatDoor
open Go.ChangeShapes Go.WideShapes Go.ChangeAt Go.RowKit

def spareB : ByteArray := ⟨#[115, 112, 97, 114, 101]⟩
def overB : ByteArray := ⟨#[111, 118, 101, 114]⟩
/-- A whole block of texts. -/
def RowT (w : World) (g : Nat) (ts : List ByteArray) : Prop := w.heap[g]? = some (Obj.cells (ts.map Value.string).toArray 9 (0, 0))
section
variable {w w' : World} {g : Nat} {ts : List ByteArray}
theorem RowT.lt (h : RowT w g ts) : g < w.heap.size := (Array.getElem?_eq_some_iff.1 h).1
theorem RowT.below (h : RowT w g ts) (hb : Below w.heap.size w w') : RowT w' g ts := by unfold RowT; rw [hb.block g h.lt]; exact h
theorem RowT.cell (h : RowT w g ts) (j : Nat) (hj : j < ts.length) : w.cell? ⟨g, j, none⟩ = some (.string ts[j]) := by
  rw [cell_of_row w g j _ _ _ h]; simp [hj]
theorem RowT.frozen (h : RowT w g ts) (j : Nat) : w.frozen? ⟨g, j, none⟩ = false := by simp [World.frozen?, show w.heap[g]? = _ from h]
theorem RowT.tx (h : RowT w g ts) : TxAt w (some ⟨g, 0, none⟩) ts := fun k hk => ⟨g, 0, rfl, h.lt, by rw [Nat.zero_add]; exact h.cell k hk⟩
theorem RowT.put (h : RowT w g ts) (k : Nat) (u : ByteArray) : RowT (w.setCell ⟨g, k, none⟩ (.string u)) g (ts.set k u) := by
  have h' : w.heap[g]? = _ := h
  unfold RowT
  simp [World.setCell, Array.getElem?_modify, h', List.map_set]
theorem RowT.grown (_h : RowT w g ts) (k : Nat) (u : ByteArray) : w.grownBy (w.setCell ⟨g, k, none⟩ (.string u)) (some g) :=
  ⟨rfl, rfl, rfl, by simp [World.setCell], fun q _ hne => Below.heap_setCell _ _ _ _ (fun e => hne (by rw [e]))⟩
end
theorem TxAt.take {w : World} {x : Option Addr} {ts us : List ByteArray} (h : TxAt w x (ts ++ us)) : TxAt w x ts := fun k hk => by
  obtain ⟨b, off, e, hl, hc⟩ := h k (by rw [List.length_append]; omega)
  exact ⟨b, off, e, hl, by rw [hc, List.getElem_append_left hk]⟩
theorem made_empties (n : Nat) : madeCells (Value.string ByteArray.empty).cells (n * 1) = ((List.replicate n (⟨#[]⟩ : ByteArray)).map Value.string).toArray := by
  apply Array.ext'
  rw [List.toList_toArray, List.map_replicate]
  apply List.ext_getElem?
  intro j
  by_cases hj : j < n
  · unfold madeCells
    rw [Array.getElem?_toList, Array.getElem?_map, Array.getElem?_eq_getElem (by simpa using hj)]
    simp [Value.cells, hj, Nat.mod_one]
    rfl
  · rw [List.getElem?_eq_none (by rw [Array.length_toList, size_madeCells]; omega), List.getElem?_eq_none (by simp; omega)]
theorem run_madeT (w : World) (n : Nat) (hn : n ≤ 2147483649) :
    (Instr.makeSlice 33 (.int .i64 (n : Int)) (.int .i64 (n : Int))).run Tryz.prog w = .ok (.slice (some ⟨w.heap.size, 0, none⟩) n n) (w.alloc (Obj.cells ((List.replicate n (⟨#[]⟩ : ByteArray)).map Value.string).toArray 9)) := by
  obtain ⟨i0, hi, hz0, hz1, hz2⟩ := info_parts infoTx
  have := run_make (P := Tryz.prog) w 33 9 i0 _ Tryz.underlying33 hi hz0 .i64 .i64 (n : Int) (n : Int) (by omega) (by omega) (by rw [hz2]; omega) (by omega)
  rw [hz1, Int.toNat_natCast, made_empties] at this
  exact this
set_option maxRecDepth 100000 in
/-- 'copy(own, l)' where own was made longer. -/
theorem run_copyT (W : World) (g n c m : Nat) (x : Option Addr) (ts : List ByteArray) (hn : ts.length = n) (hg : RowT W g (List.replicate (n + m) ⟨#[]⟩)) (hl : TxAt W x ts) :
    ∃ W', (∀ ty : TypeId, (Builtin.copy_ #[33, 33] ty #[.slice (some ⟨g, 0, none⟩) (n + m) (n + m), .slice x n c]).run Tryz.prog W = .ok (goInt n) W') ∧ But g W W' ∧ RowT W' g (ts ++ List.replicate m ⟨#[]⟩) := by
  obtain ⟨i0, hi, hz0, hz1, hz2⟩ := info_parts infoTx
  subst hn
  by_cases h0 : ts.length = 0
  · have he : ts = [] := List.eq_nil_of_length_eq_zero h0
    subst he
    refine ⟨W, fun ty => ?_, But.refl _ _, by simpa using hg⟩
    cases x with
    | none => simp [Builtin.copy_, run_underlying Tryz.underlying33, Builtin.lenOf, Builtin.firstCells, sizeOf, typeInfo, hi, storeCells, goInt]
    | some a =>
      have h0 := run_loadCells_list (P := Tryz.prog) W a [] (fun j v h => by simp at h)
      simp at h0
      simp [Builtin.copy_, run_underlying Tryz.underlying33, Builtin.lenOf, Builtin.firstCells, sizeOf, typeInfo, hi, h0, storeCells, goInt]
  · obtain ⟨b, off, hx, _, _⟩ := hl 0 (by omega)
    subst hx
    have hsrc : ∀ j v, (ts.map Value.string)[j]? = some v → W.cell? ((⟨b, off, none⟩ : Addr).add j) = some v := by
      intro j v hj
      rw [add_at3]
      have hjl : j < ts.length := by have := (List.getElem?_eq_some_iff.1 hj).1; simpa using this
      obtain ⟨b', off', e, _, a0⟩ := hl j hjl
      obtain ⟨rfl, rfl⟩ : b = b' ∧ off = off' := by simpa using e
      rw [List.getElem?_map, List.getElem?_eq_getElem hjl] at hj
      rw [← Option.some.inj hj]; exact a0
    have hone : ∀ v ∈ ts.map Value.string, v.oneCell' = true := by
      intro v hv
      obtain ⟨l, _, rfl⟩ := List.mem_map.1 hv
      rfl
    have hr := fun ty : TypeId => run_copy_rowN (P := Tryz.prog) W 33 33 ty 9 g 0 (ts.length + m) (ts.length + m) ⟨b, off, none⟩ ts.length c ts.length _ _ (ts.map Value.string) i0 Tryz.underlying33 hi hg (Nat.min_eq_left (by omega)) (by rw [hz1]; simp) hsrc (by simp) hone
    refine ⟨_, hr, ⟨rfl, rfl, rfl, by simp, fun k hk hne => setRow_other W g k _ hne⟩, ?_⟩
    unfold RowT
    rw [setRow_heap W g _ _ _ _ hg]
    congr 2
    rw [List.take_zero, List.nil_append, Nat.zero_add, List.toList_toArray, List.map_append]
    congr 1
    rw [← List.replicate_append_replicate, List.map_append, List.drop_append, List.drop_eq_nil_of_le (by simp)]
    simp
theorem elemTx : Tryz.prog.underlying 33 = some (.slice (Tryz.prog.elem 33)) := by kernel_rfl
theorem sizeTx (w : World) : (sizeOf (Tryz.prog.elem 33)).run Tryz.prog w = .ok 1 w := by kernel_rfl
theorem tslice_to (b off n c k : Nat) (hk : k ≤ c) (W : World) : (Instr.slice 33 (.slice (some ⟨b, off, none⟩) n c) none (some (.int .i64 (k : Int))) none).run Tryz.prog W = .ok (.slice (some ⟨b, off, none⟩) k c) W := by
  rw [run_slice_h W _ _ _ _ elemTx .i64 (k : Int) (by omega) (by omega), sizeTx]
  show Result.ok (sliced _ _ _ _ _) W = _
  unfold sliced
  congr 2
  split
  · rfl
  · simp [Addr.add]
theorem grown_of_belowT {w w' : World} (h : Below w.heap.size w w') (row : Option Nat) : w.grownBy w' row := ⟨h.os, h.tape, h.output, h.size, fun k hk _ => h.block k hk⟩
/-- What lent makes. -/
def lentL (ts : List ByteArray) : List ByteArray := ts ++ [spareB, ⟨#[]⟩]
theorem lent_put (ts : List ByteArray) : (ts ++ List.replicate 2 (⟨#[]⟩ : ByteArray)).set ts.length spareB = lentL ts := by
  rw [List.set_append_right _ _ (Nat.le_refl _)]
  simp [lentL, List.replicate]
set_option maxHeartbeats 3200000 in
set_option maxRecDepth 100000 in
theorem elent_any (ts : List ByteArray) (x : Option Addr) (n c : Nat) (w : World) (h : TxAt w x ts) (hn : ts.length = n) (hl : n ≤ 2147483647) :
    Calls Tryz.prog 22 #[.slice x n c] w fun e w' => ∃ g, e = .returned (.slice (some ⟨g, 0, none⟩) (n + 2) (n + 2)) ∧ w.heap.size ≤ g ∧ RowT w' g (lentL ts) ∧ Below w.heap.size w w' := by
  obtain ⟨CS, hCS⟩ : ∃ CS, ((List.replicate (n + 2) (⟨#[]⟩ : ByteArray)).map Value.string).toArray = CS := ⟨_, rfl⟩
  have hmk : ∀ W : World, (Instr.makeSlice 33 (.int .i64 ((n : Int) + 2)) (.int .i64 ((n : Int) + 2))).run Tryz.prog W = .ok (.slice (some ⟨W.heap.size, 0, none⟩) (n + 2) (n + 2)) (W.alloc (Obj.cells CS 9)) := fun W => by
    have := run_madeT W (n + 2) (by omega)
    rw [hCS] at this
    exact this
  have HCP : Hid (∃ W', (∀ ty : TypeId, (Builtin.copy_ #[33, 33] ty #[.slice (some ⟨w.heap.size, 0, none⟩) (n + 2) (n + 2), .slice x n c]).run Tryz.prog (w.alloc (Obj.cells CS 9)) = .ok (goInt n) W') ∧ RowT W' w.heap.size (ts ++ List.replicate 2 ⟨#[]⟩) ∧ Below w.heap.size w W') := Lib.hid (by
    have b1 := below_one w (Obj.cells CS 9)
    have hrow : RowT (w.alloc (Obj.cells CS 9)) w.heap.size (List.replicate (n + 2) ⟨#[]⟩) := by
      unfold RowT
      rw [hCS]
      exact heap_alloc_new _ _
    obtain ⟨W', h1, h2, h3⟩ := run_copyT (w.alloc (Obj.cells CS 9)) w.heap.size n c 2 x ts hn hrow (h.below b1)
    exact ⟨W', h1, h3, b1.trans (h2.below (Nat.le_refl _) b1.size)⟩)
  have w1' : IntKind.i64.wrap ((n : Int) + 2) = (n : Int) + 2 := IntWalk.i64_in _ (by omega)
  have q6 : (0 : Int) ≤ n := by omega
  have q7 : (n : Int) < (n : Int) + 2 := by omega
  obtain ⟨w6, hcp, hr6, hb6⟩ := HCP.out
  have c1 : w6.cell? ⟨w.heap.size, n, none⟩ = some (.string ⟨#[]⟩) := by
    rw [hr6.cell n (by simp; omega), List.getElem_append_right (by omega), List.getElem_replicate]
  have f1 := hr6.frozen n
  have HF : Hid (RowT (w6.setCell ⟨w.heap.size, n, none⟩ (.string spareB)) w.heap.size (lentL ts)) := Lib.hid (by
    have := hr6.put n spareB
    rw [← hn, lent_put] at this
    rw [← hn]; exact this)
  have HB : Hid (Below w.heap.size w (w6.setCell ⟨w.heap.size, n, none⟩ (.string spareB))) := Lib.hid (hb6.setCell (p := ⟨w.heap.size, n, none⟩) (Nat.le_refl _) _)
  unfold spareB at HF HB
  clear hr6 hb6 HCP hCS h hn
  go_enter Tryz.func22, Tryz.ntmps22
  go_wp2_with (at_builtin; refine wpList_copy_eq rfl _ _ _ _ rfl _ _ _ rfl rfl (hcp _) ?_)
  go_ret
  exact ⟨_, rfl, Nat.le_refl _, HF.out, HB.out⟩
set_option maxHeartbeats 3200000 in
set_option maxRecDepth 100000 in
theorem ewhole_any (ts : List ByteArray) (g : Nat) (x : Option Addr) (n c : Nat) (w : World) (hg : RowT w g (lentL ts)) (h : TxAt w x ts) (hn : ts.length = n) (hl : n ≤ 2147483647) :
    Calls Tryz.prog 24 #[.slice (some ⟨g, 0, none⟩) (n + 2) (n + 2), .slice x n c] w fun e w' => e = .returned (.bool true) ∧ w.grownBy w' (some g) := by
  have HG := Lib.hid hg
  have HX := Lib.hid h
  have HN := Lib.hid hn
  have hll : (lentL ts).length = n + 2 := by unfold lentL; rw [List.length_append, hn]; rfl
  have e1 : w.cell? ⟨g, n, none⟩ = some (.string ⟨#[115, 112, 97, 114, 101]⟩) := by
    rw [hg.cell n (by omega)]
    congr 2
    unfold lentL
    rw [List.getElem_append_right (by omega)]
    simp [hn, spareB]
  have e2 : w.cell? ⟨g, n + 1, none⟩ = some (.string ⟨#[]⟩) := by
    rw [hg.cell (n + 1) (by omega)]
    congr 2
    unfold lentL
    rw [List.getElem_append_right (by omega)]
    simp [hn]
  have HSZ := Lib.hid hg.lt
  have q0 : (0 : Int) ≤ n := by omega
  have q00 : (n : Int) < (n : Int) + 2 := by omega
  have q01 : (n : Int) + 1 < (n : Int) + 2 := by omega
  have q02 : (0 : Int) ≤ (n : Int) + 1 := by omega
  have w1' : IntKind.i64.wrap ((n : Int) + 1) = (n : Int) + 1 := IntWalk.i64_in _ (by omega)
  clear hg h hn hll
  go_enter Tryz.func24, Tryz.ntmps24
  go_wp2
  go_loopw [5, 6] (fun o i wr => ∃ t : Nat, o = .bool true ∧ i = .int .i64 t ∧ t ≤ n ∧ Hid (RowT wr g (lentL ts) ∧ TxAt wr x ts ∧ w.grownBy wr (some g))) (fun _ i _ => n - (intOf i).toNat)
  case atStart => exact ⟨0, rfl, rfl, by omega, Lib.hid ⟨HG.out, HX.out, World.grownBy.refl _ _⟩⟩
  case round =>
    clear e1 e2 HG HX HSZ
    obtain ⟨t, rfl, rfl, ht, HI⟩ := hrel
    obtain ⟨HG, HX, hgw⟩ := HI.out
    by_cases hlt : t < n
    · have q1 : (0 : Int) ≤ t := by omega
      have q2 : (t : Int) < n := by omega
      have q3 : (t : Int) < (n : Int) + 2 := by omega
      have htx : t < ts.length := by rw [HN.out]; exact hlt
      obtain ⟨b, off, hx, _, c0⟩ := HX t htx
      have c1 : wr.cell? ⟨g, t, none⟩ = some (.string ts[t]) := by
        rw [HG.cell t (by unfold lentL; rw [List.length_append]; omega)]
        congr 2
        unfold lentL
        rw [List.getElem_append_left htx]
      generalize ts[t] = p at c0 c1
      have he : (p.toList == p.toList) = true := by simp
      have HI2 : Hid (RowT wr.drew g (lentL ts) ∧ TxAt wr.drew x ts ∧ w.grownBy wr.drew (some g)) := Lib.hid ⟨HG, HX.below (below_drewN wr 1), hgw.trans (grown_of_belowT (below_drewN wr 1) _)⟩
      subst hx
      clear htx HG HX hgw HI
      go_wp2
      go_region
      all_goals
        go_wp2
        go_roundw
        case rel => exact ⟨t + 1, rfl, by go_num, by omega, HI2⟩
        case measure => simp [intOf]; omega
    · have q2 : ¬ (t : Int) < n := by omega
      have H0 : Hid (∃ us, RowT wr g us ∧ us.length = n + 2 ∧ w.grownBy wr (some g)) := Lib.hid ⟨_, HG, by unfold lentL; rw [List.length_append, HN.out]; rfl, hgw⟩
      clear HG HX hgw HI
      go_wp2
      go_loopw [7] (fun i wr => ∃ t : Nat, i = .int .i64 t ∧ t ≤ n + 2 ∧ Hid (∃ us, RowT wr g us ∧ us.length = n + 2 ∧ w.grownBy wr (some g))) (fun i _ => n + 2 - (intOf i).toNat)
      case atStart => exact ⟨0, rfl, by omega, H0⟩
      case round =>
        clear H0 hlt ht q2
        obtain ⟨t, rfl, ht, H⟩ := hrel
        by_cases hlt : t < n + 2
        · have q1 : (0 : Int) ≤ t := by omega
          have q2 : (t : Int) < (n : Int) + 2 := by omega
          obtain ⟨us, h1, h2, h3⟩ := H.out
          have c1 := h1.cell t (by omega)
          have f1 := h1.frozen t
          have HH : Hid (∃ us, RowT (wr.setCell ⟨g, t, none⟩ (.string ⟨#[111, 118, 101, 114]⟩)) g us ∧ us.length = n + 2 ∧ w.grownBy (wr.setCell ⟨g, t, none⟩ (.string ⟨#[111, 118, 101, 114]⟩)) (some g)) := Lib.hid ⟨_, h1.put t _, by rw [List.length_set]; exact h2, h3.trans (h1.grown t _)⟩
          generalize us[t]'(by omega) = u at c1
          clear h1 h2 h3 H
          go_wp2
          go_roundw
          case rel => exact ⟨t + 1, by go_num, by omega, HH⟩
          case measure => simp [intOf]; omega
        · have q2 : ¬ (t : Int) < (n : Int) + 2 := by omega
          obtain ⟨us, h1, h2, h3⟩ := H.out
          clear h1 h2 H
          go_wp2
          go_ret
          exact ⟨rfl, h3⟩
end Go.Proofs.YtbgoooljkdjjhaaGreatDoor
